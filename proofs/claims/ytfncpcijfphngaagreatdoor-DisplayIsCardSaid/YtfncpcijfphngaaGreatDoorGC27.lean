/-The document's text of any term with regions. The document's example: mathematics, and how it lies. (Written by wip/tools/dsawm.py.) The walk of the document's example. (Written by wip/tools/dsawake.py.) The walk of the document's May. The walk of the document's head of terms with regions. (Written by wip/tools/atrefnode.py.) -/
import Derived.Test.YtfncpcijfphngaaGreatDoorGC24
import Derived.Test.YtfncpcijfphngaaGreatDoorGC25
import Derived.Test.YtfncpcijfphngaaGreatDoorGC26
import Derived.Test.YtfncpcijfphngaaGreatDoorGC22
import Derived.Test.YtfncpcijfphngaaGreatDoorGC16
import Derived.Test.YtfncpcijfphngaaGreatDoorGC02
import Derived.Test.YtfncpcijfphngaaGreatDoorGC09
import Derived.Test.YtfncpcijfphngaaGreatDoorGC14
import Derived.Test.YtfncpcijfphngaaGreatDoorGC01
namespace Go.Proofs.YtfncpcijfphngaaGreatDoor
open Go.RowKit
set_option linter.unusedVariables false
namespace Disp
open Aterm (AT Hd V AtIs tget wt nodeB allT smallB)
theorem refText_all (w0 : World) : ∀ m, TextIs w0 m := by
 intro m
 induction m with
 | zero =>
  intro t h v l w hm
  have := Aterm.wt_pos t
  omega
 | succ m ih =>
  intro t h v l w hm hw hok hsm hI hb
  have hk := (node_of (top_all hok)).1
  rw [hI.head] at hk
  have hh : (h.h.k = 1 ∨ h.h.k = 2 ∨ h.h.k = 4 ∨ h.h.k = 5 ∨ h.h.k = 7 ∨ h.h.k = 6 ∨ h.h.k = 3 ∨ h.h.k = 8 ∨ h.h.k = 10 ∨ h.h.k = 12 ∨ h.h.k = 14 ∨ h.h.k = 16) ∨ h.h.k = 9 ∨ (h.h.k = 11 ∨ h.h.k = 15 ∨ h.h.k = 17 ∨ h.h.k = 18 ∨ h.h.k = 13) := by omega
  rcases hh with k | k | k
  ·exact ref_a w0 m ih t h v l w hm hw hok hsm hI hb k
  ·exact ref_b w0 m ih t h v l w hm hw hok hsm hI hb k
  ·exact ref_c w0 m ih t h v l w hm hw hok hsm hI hb k
theorem refText_walk (t : AT) (h : Hd) (v : V) (l : Nat) (w0 w : World) (hw : wt t ≤ 500) (hok : allT nodeB t = true) (hsm : allT smallB t = true) (hI : AtIs w0 h v l t) (hb : Below w0.heap.size w0 w) :
  Calls Tryz.prog 13 #[.agg #[.int .u8 h.h.k, .int .u8 h.h.op, .int .i64 h.h.pl, .int .i64 h.h.n, .string h.h.name, .string h.h.arg, .string h.h.exn, .int .i64 h.rho, .slice v.ra h.rhos.length v.rc, .slice v.ea h.e.length v.ec, .int .u8 h.ty.h.k, .int .i64 h.ty.h.r, .slice v.tea h.ty.h.e.length v.tec, .slice v.tka h.ty.ks.length v.tkc, .int .u8 h.re.h.k, .int .i64 h.re.h.r, .slice v.sea h.re.h.e.length v.sec, .slice v.ska h.re.ks.length v.skc, .slice v.ka l v.kc]] w fun e w' => e = .returned (.string (Types.jb (partsT t))) ∧ Below w.heap.size w w' :=
 refText_all w0 _ t h v l w (Nat.le_refl _) hw hok hsm hI hb
end Disp
end Go.Proofs.YtfncpcijfphngaaGreatDoor
namespace Go.Proofs.YtfncpcijfphngaaGreatDoor
open Go.RowKit
set_option linter.unusedVariables false
set_option linter.unusedSimpArgs false
namespace DispEx
open Aterm
open Effect (RdI nget nget_at nget_mem ret_bool ret_i64 lt_of_block heap_alloc_new ofA)
open Rt (box_new box_at below_then)

def exH (k rho : Int) (n : Int := 0) : Hd := ⟨⟨k, 0, 0, n, ⟨#[]⟩, ⟨#[]⟩, ⟨#[]⟩⟩, rho, [], [], .node ⟨0, 0, []⟩ [], .node ⟨0, 0, []⟩ []⟩
def exV (p : Option Addr) (c : Nat) : V := ⟨none, 0, none, 0, none, 0, none, 0, none, 0, none, 0, p, c⟩
def exN : AT := .node (exH 1 0 2) []
def exP : AT := .node (exH 3 1) [exN, exN]
def exF : AT := .node (exH 4 0) [exP]
def exT : AT := .node (exH 17 1) [exF]
theorem wt_N : wt exN = 1 := by unfold exN; rw [wt_ks]; simp only [AT.ks]; rw [wts_nil]
theorem wt_P : wt exP = 3 := by unfold exP; rw [wt_ks]; simp only [AT.ks]; rw [wts_cons, wts_cons, wts_nil, wt_N]
theorem wt_F : wt exF = 4 := by unfold exF; rw [wt_ks]; simp only [AT.ks]; rw [wts_cons, wts_nil, wt_P]
theorem wt_T : wt exT = 5 := by unfold exT; rw [wt_ks]; simp only [AT.ks]; rw [wts_cons, wts_nil, wt_F]
theorem all_ex (B : Hd → Nat → Bool) (h1 : B (exH 1 0 2) 0 = true) (h2 : B (exH 3 1) 2 = true) (h3 : B (exH 4 0) 1 = true) (h4 : B (exH 17 1) 1 = true) : allT B exT = true := by
 have n : allT B exN = true := by unfold exN; rw [allT_eq]; simp only [AT.h, AT.ks, List.length_nil]; rw [h1, allK_nil]; rfl
 have p : allT B exP = true := by unfold exP; rw [allT_eq]; simp only [AT.h, AT.ks, List.length_cons, List.length_nil]; rw [show B (exH 3 1) (0 + 1 + 1) = true from h2, allK_cons, allK_cons, allK_nil, n]; rfl
 have f : allT B exF = true := by unfold exF; rw [allT_eq]; simp only [AT.h, AT.ks, List.length_cons, List.length_nil]; rw [show B (exH 4 0) (0 + 1) = true from h3, allK_cons, allK_nil, p]; rfl
 unfold exT; rw [allT_eq]; simp only [AT.h, AT.ks, List.length_cons, List.length_nil]; rw [show B (exH 17 1) (0 + 1) = true from h4, allK_cons, allK_nil, f]; rfl
theorem may_ex : mayT exT = true := by
 unfold mayT
 rw [wt_T, all_ex nodeB (by decide) (by decide) (by decide) (by decide)]
 rfl
theorem small_ex : allT smallB exT = true := all_ex smallB (by decide) (by decide) (by decide) (by decide)
theorem ex_is {w : World} {k rho n : Int} (hn : 0 ≤ n ∧ n ≤ 255) {p : Option Addr} {c : Nat} {ts : List AT} (hk : 0 ≤ k ∧ k ≤ 255) (hr : 0 ≤ rho ∧ rho ≤ 1000) (hc : ts.length ≤ c ∧ c ≤ maxLen) (hks : Aterm.Kids w p ts) : AtIs w (exH k rho n) (exV p c) ts.length (.node (exH k rho n) ts) :=
 ⟨rfl, rfl, ⟨⟨hk, by show (0 : Int) ≤ 0 ∧ (0 : Int) ≤ 255; omega, by show (-9223372036854775808 : Int) ≤ 0 ∧ (0 : Int) ≤ 9223372036854775807; omega, by show (-9223372036854775808 : Int) ≤ n ∧ n ≤ 9223372036854775807; omega, by show 0 ≤ maxLen; exact Nat.zero_le _, by show 0 ≤ maxLen; exact Nat.zero_le _, by show 0 ≤ maxLen; exact Nat.zero_le _⟩,
  by show -9223372036854775808 ≤ rho ∧ rho ≤ 9223372036854775807; omega, ⟨rfl, .inl rfl, fun x hx => by cases hx⟩, ⟨Nat.le_refl _, by show 0 ≤ maxLen; exact Nat.zero_le _⟩, zeroEff w, (fun x hx => by cases hx), zeroRt w, zeroRt w⟩, hc, hks⟩
/-- A term that is laid into a block that was made last, its number spelled otherwise. -/
theorem at_store2 {ops : Array Oper} {rest : List Oper} {op : Oper} {a : Act} {w0 : World} {Q : Exit → Act → World → Prop} (hgd : op.guard = none) (x y : Operand) (ho : op.op = .store 31 x y) (c : Array Value) (hc : c.size = 19)
  (h : Hd) (v : V) (l : Nat) (N : Nat) (hN : N = w0.heap.size) (hx : a.eval x = .pointer (some ⟨N, 0, none⟩)) (hy : a.eval y = .agg #[.int .u8 h.h.k, .int .u8 h.h.op, .int .i64 h.h.pl, .int .i64 h.h.n, .string h.h.name, .string h.h.arg, .string h.h.exn, .int .i64 h.rho, .slice v.ra h.rhos.length v.rc, .slice v.ea h.e.length v.ec, .int .u8 h.ty.h.k, .int .i64 h.ty.h.r, .slice v.tea h.ty.h.e.length v.tec, .slice v.tka h.ty.ks.length v.tkc, .int .u8 h.re.h.k, .int .i64 h.re.h.r, .slice v.sea h.re.h.e.length v.sec, .slice v.ska h.re.ks.length v.skc, .slice v.ka l v.kc])
  (k : wpList Tryz.prog ops Q rest (a.put op.dst undef) (w0.alloc (.cells #[.int .u8 h.h.k, .int .u8 h.h.op, .int .i64 h.h.pl, .int .i64 h.h.n, .string h.h.name, .string h.h.arg, .string h.h.exn, .int .i64 h.rho, .slice v.ra h.rhos.length v.rc, .slice v.ea h.e.length v.ec, .int .u8 h.ty.h.k, .int .i64 h.ty.h.r, .slice v.tea h.ty.h.e.length v.tec, .slice v.tka h.ty.ks.length v.tkc, .int .u8 h.re.h.k, .int .i64 h.re.h.r, .slice v.sea h.re.h.e.length v.sec, .slice v.ska h.re.ks.length v.skc, .slice v.ka l v.kc] 31))) : wpList Tryz.prog ops Q (op :: rest) a (w0.alloc (.cells c 31)) := by
 subst hN
 exact at_store hgd x y ho c hc h v l hx hy k
theorem of_world {P : Program} {c : Code} {Q : Exit → Act → World → Prop} {a : Act} {W : World} {F : World → Prop} (hf : F W) (h : ∀ W2, F W2 → Code.wp P c Q a W2) : Code.wp P c Q a W := h W hf
/-- Kids that are laid, one after the other. -/
theorem kids_laid {W : World} {g : Nat} {ts : List AT} (h : ∀ i, i < ts.length → ∃ v, AtIs W (tget ts i).h v (tget ts i).ks.length (tget ts i) ∧ W.rangeAt g (i * 19) (acells (tget ts i).h v (tget ts i).ks.length)) : Aterm.Kids W (some ⟨g, 0, none⟩) ts := by
 have h' : ∀ i, ∃ v, i < ts.length → AtIs W (tget ts i).h v (tget ts i).ks.length (tget ts i) ∧ W.rangeAt g (i * 19) (acells (tget ts i).h v (tget ts i).ks.length) := fun i => by
  by_cases hi : i < ts.length
  ·obtain ⟨v, hv⟩ := h i hi
   exact ⟨v, fun _ => hv⟩
  ·exact ⟨v0, fun hn => absurd hn hi⟩
 obtain ⟨F, hF⟩ := Classical.axiomOfChoice h'
 refine .atkids g 0 ts F (fun i hi => (hF i hi).1.ok) (fun i hi j x hx => ?_) (fun i hi => (hF i hi).1.cap) (fun i hi => (hF i hi).1.kids)
 have := (hF i hi).2 j x hx
 rw [Nat.zero_add]; exact this
theorem kids_new {w : World} {t : AT} {h : Hd} {v : V} {l : Nat} (hT : AtIs w h v l t) {ty : TypeId} {N : Nat} (hN : N = w.heap.size) : Aterm.Kids (w.alloc (.cells #[.int .u8 h.h.k, .int .u8 h.h.op, .int .i64 h.h.pl, .int .i64 h.h.n, .string h.h.name, .string h.h.arg, .string h.h.exn, .int .i64 h.rho, .slice v.ra h.rhos.length v.rc, .slice v.ea h.e.length v.ec, .int .u8 h.ty.h.k, .int .i64 h.ty.h.r, .slice v.tea h.ty.h.e.length v.tec, .slice v.tka h.ty.ks.length v.tkc, .int .u8 h.re.h.k, .int .i64 h.re.h.r, .slice v.sea h.re.h.e.length v.sec, .slice v.ska h.re.ks.length v.skc, .slice v.ka l v.kc] ty)) (some ⟨N, 0, none⟩) [t] := by
 have hT' := hT.below (box_new (w := w) (.cells #[.int .u8 h.h.k, .int .u8 h.h.op, .int .i64 h.h.pl, .int .i64 h.h.n, .string h.h.name, .string h.h.arg, .string h.h.exn, .int .i64 h.rho, .slice v.ra h.rhos.length v.rc, .slice v.ea h.e.length v.ec, .int .u8 h.ty.h.k, .int .i64 h.ty.h.r, .slice v.tea h.ty.h.e.length v.tec, .slice v.tka h.ty.ks.length v.tkc, .int .u8 h.re.h.k, .int .i64 h.re.h.r, .slice v.sea h.re.h.e.length v.sec, .slice v.ska h.re.ks.length v.skc, .slice v.ka l v.kc] ty))
 have hr := row_new (W := w) hN (h := h) (v := v) (l := l) (ty := ty)
 have e1 := hT.head
 have e2 := hT.len
 subst e1 e2
 refine kids_laid fun i hi => ?_
 have hi0 : i = 0 := by simp at hi; omega
 subst hi0
 exact ⟨v, hT', by rw [Nat.zero_mul]; exact hr⟩
theorem kids_twice {w : World} {ty : TypeId} {N : Nat} (hN : N = w.heap.size) : Aterm.Kids (w.alloc (.cells #[.int .u8 1, .int .u8 0, .int .i64 0, .int .i64 2, .string ⟨#[]⟩, .string ⟨#[]⟩, .string ⟨#[]⟩, .int .i64 0, .slice none 0 0, .slice none 0 0, .int .u8 0, .int .i64 0, .slice none 0 0, .slice none 0 0, .int .u8 0, .int .i64 0, .slice none 0 0, .slice none 0 0, .slice none 0 0, .int .u8 1, .int .u8 0, .int .i64 0, .int .i64 2, .string ⟨#[]⟩, .string ⟨#[]⟩, .string ⟨#[]⟩, .int .i64 0, .slice none 0 0, .slice none 0 0, .int .u8 0, .int .i64 0, .slice none 0 0, .slice none 0 0, .int .u8 0, .int .i64 0, .slice none 0 0, .slice none 0 0, .slice none 0 0] ty)) (some ⟨N, 0, none⟩) [exN, exN] := by
 subst hN
 refine kids_laid fun i hi => ?_
 have hg : tget [exN, exN] i = exN := by
  have : i = 0 ∨ i = 1 := by simp at hi; omega
  rcases this with rfl | rfl <;> rfl
 rw [hg]
 refine ⟨exV none 0, ex_is (n := 2) (ts := []) (by decide) (by decide) (by decide) ⟨Nat.le_refl _, Nat.zero_le _⟩ (.nokids _), ?_⟩
 intro j x hx
 have hj : j < 19 := by
  rcases Nat.lt_or_ge j 19 with h | h
  ·exact h
  ·rw [List.getElem?_eq_none (by simpa [acells] using h)] at hx; cases hx
 rw [World.cell?_alloc_mark, ← hx]
 have : i = 0 ∨ i = 1 := by simp at hi; omega
 rcases this with rfl | rfl
 all_goals
  have hj' : j = 0 ∨ j = 1 ∨ j = 2 ∨ j = 3 ∨ j = 4 ∨ j = 5 ∨ j = 6 ∨ j = 7 ∨ j = 8 ∨ j = 9 ∨ j = 10 ∨ j = 11 ∨ j = 12 ∨ j = 13 ∨ j = 14 ∨ j = 15 ∨ j = 16 ∨ j = 17 ∨ j = 18 := by omega
  rcases hj' with rfl | rfl | rfl | rfl | rfl | rfl | rfl | rfl | rfl | rfl | rfl | rfl | rfl | rfl | rfl | rfl | rfl | rfl | rfl <;> rfl
end DispEx
end Go.Proofs.YtfncpcijfphngaaGreatDoor
namespace Go.Proofs.YtfncpcijfphngaaGreatDoor
open Go.RowKit
set_option linter.unusedVariables false
set_option linter.unusedSimpArgs false
namespace Disp
open DispEx
open Aterm (AT Hd V AtIs acells at_load exec_at range_below at_store row_new nodeB allT smallB wt tget)
open Effect (RdI nget nget_at nget_mem ret_bool ret_i64 lt_of_block heap_alloc_new ofA digs)
open Rt (box_new box_at below_then wAt)
open Types (wOpen wShut)

theorem dig1 : digs 1 = ⟨#[49]⟩ := by
 unfold digs Lib.itoa
 rw [if_neg (by decide), show (1 : Int).toNat = 1 from rfl, Lib.decDigits_one (by omega)]
 rfl
theorem dig2 : digs 2 = ⟨#[50]⟩ := by
 unfold digs Lib.itoa
 rw [if_neg (by decide), show (2 : Int).toNat = 2 from rfl, Lib.decDigits_one (by omega)]
 rfl
theorem parts_ex : partsT exT = [wOpen, wRegion, digs 1, wIn, wOpen, wFst, wOpen, digs 2, wComma, digs 2, wAt, digs 1, wShut, wShut, wShut] := by kernel_rfl
def exText : ByteArray := ⟨#[40, 32, 114, 101, 103, 105, 111, 110, 32, 49, 32, 105, 110, 32, 40, 32, 102, 115, 116, 32, 40, 32, 50, 32, 44, 32, 50, 32, 64, 32, 49, 32, 41, 32, 41, 32, 41]⟩
theorem text_ex : textS exT = exText ∧ errE exT = 0 := by
 have hm : allT nodeB exT = true := by
  have := may_ex
  unfold Aterm.mayT at this
  rw [Bool.and_eq_true] at this
  exact this.2
 obtain ⟨h1, h2⟩ := text_yes hm
 rw [h1, h2, parts_ex, dig1, dig2]
 exact ⟨by kernel_rfl, rfl⟩
theorem exText_eq : (exText.toList == [40, 32, 114, 101, 103, 105, 111, 110, 32, 49, 32, 105, 110, 32, 40, 32, 102, 115, 116, 32, 40, 32, 50, 32, 44, 32, 50, 32, 64, 32, 49, 32, 41, 32, 41, 32, 41]) = true := by
 rw [Lib.toList_data]
 simp [exText]
set_option maxRecDepth 100000 in
set_option maxHeartbeats 12800000 in
theorem awake_walk (w : World) (hla : Laid w) : Calls Tryz.prog 9 #[] w fun e w' => e = .returned (.bool true) ∧ Below w.heap.size w w' := by
 have HLA := Lib.hid hla
 clear hla
 go_enter Tryz.func9, Tryz.ntmps9
 go_upto_region 2 with (refine at_store rfl _ _ rfl _ rfl (exH 1 0 2) (exV none 0) 0 rfl rfl ?_)
 obtain ⟨W1, hW1⟩ : ∃ W1, W1 = w.alloc (.cells #[.int .u8 (exH 1 0 2).h.k, .int .u8 (exH 1 0 2).h.op, .int .i64 (exH 1 0 2).h.pl, .int .i64 (exH 1 0 2).h.n, .string (exH 1 0 2).h.name, .string (exH 1 0 2).h.arg, .string (exH 1 0 2).h.exn, .int .i64 (exH 1 0 2).rho, .slice (exV none 0).ra (exH 1 0 2).rhos.length (exV none 0).rc, .slice (exV none 0).ea (exH 1 0 2).e.length (exV none 0).ec, .int .u8 (exH 1 0 2).ty.h.k, .int .i64 (exH 1 0 2).ty.h.r, .slice (exV none 0).tea (exH 1 0 2).ty.h.e.length (exV none 0).tec, .slice (exV none 0).tka (exH 1 0 2).ty.ks.length (exV none 0).tkc, .int .u8 (exH 1 0 2).re.h.k, .int .i64 (exH 1 0 2).re.h.r, .slice (exV none 0).sea (exH 1 0 2).re.h.e.length (exV none 0).sec, .slice (exV none 0).ska (exH 1 0 2).re.ks.length (exV none 0).skc, .slice (exV none 0).ka 0 (exV none 0).kc] 31) := ⟨_, rfl⟩
 have hr1 : W1.rangeAt w.heap.size 0 (acells (exH 1 0 2) (exV none 0) 0) := by rw [hW1]; exact row_new rfl
 have hb1 : Below w.heap.size w W1 := by rw [hW1]; exact box_new _
 rw [← hW1]
 have HR1 := Lib.hid hr1; have HB1 := Lib.hid hb1
 clear hW1 hr1 hb1
 generalize hN1 : w.heap.size = N1 at HR1 ⊢
 have HN1 := Lib.hid hN1
 clear hN1
 go_upto_region 3 with (first | refine at_load rfl _ rfl N1 0 rfl HR1.out ?_ | refine at_store2 rfl _ _ rfl _ rfl (exH 3 1) (exV (some ⟨W1.heap.size, 0, none⟩) 2) 2 _ (by simp) rfl rfl ?_)
 refine of_world (F := fun V => Below W1.heap.size W1 V ∧ AtIs V (exH 3 1) (exV (some ⟨W1.heap.size, 0, none⟩) 2) 2 exP ∧ V.rangeAt (W1.heap.size + 1) 0 (acells (exH 3 1) (exV (some ⟨W1.heap.size, 0, none⟩) 2) 2))
  ⟨(box_new _).trans ((box_new _).mono (by simp)), (ex_is (n := 0) (by decide) (k := 3) (rho := 1) (p := some ⟨W1.heap.size, 0, none⟩) (c := 2) (ts := [exN, exN]) (by decide) (by decide) ⟨Nat.le_refl _, by unfold maxLen; show 2 ≤ _; omega⟩ (kids_twice rfl)).below (box_new _), row_new (by simp)⟩ ?_
 rintro W2 ⟨hb2, hj2, hr2⟩
 have HR2 := Lib.hid hr2; have HJ2 := Lib.hid hj2; have HB2 := Lib.hid (below_then HB1.out hb2 HB1.out.size)
 clear hr2 hj2 hb2
 generalize hN2 : W1.heap.size + 1 = N2 at HR2 ⊢
 clear hN2
 go_upto_region 4 with (first | refine at_load rfl _ rfl N2 0 rfl HR2.out ?_ | refine at_store2 rfl _ _ rfl _ rfl (exH 4 0) (exV (some ⟨W2.heap.size, 0, none⟩) 1) 1 _ (by simp) rfl rfl ?_)
 refine of_world (F := fun V => Below W2.heap.size W2 V ∧ AtIs V (exH 4 0) (exV (some ⟨W2.heap.size, 0, none⟩) 1) 1 exF ∧ V.rangeAt (W2.heap.size + 1) 0 (acells (exH 4 0) (exV (some ⟨W2.heap.size, 0, none⟩) 1) 1))
  ⟨(box_new _).trans ((box_new _).mono (by simp)), (ex_is (n := 0) (by decide) (k := 4) (rho := 0) (p := some ⟨W2.heap.size, 0, none⟩) (c := 1) (ts := [exP]) (by decide) (by decide) ⟨Nat.le_refl _, by unfold maxLen; show 1 ≤ _; omega⟩ (kids_new HJ2.out rfl)).below (box_new _), row_new (by simp)⟩ ?_
 rintro W3 ⟨hb3, hj3, hr3⟩
 have HR3 := Lib.hid hr3; have HJ3 := Lib.hid hj3; have HB3 := Lib.hid (below_then HB2.out hb3 HB2.out.size)
 clear hr3 hj3 hb3
 generalize hN3 : W2.heap.size + 1 = N3 at HR3 ⊢
 clear hN3
 have hj4 : AtIs (W3.alloc (.cells (acells (exH 4 0) (exV (some ⟨W2.heap.size, 0, none⟩) 1) 1).toArray 31)) (exH 17 1) (exV (some ⟨W3.heap.size, 0, none⟩) 1) 1 exT := ex_is (n := 0) (by decide) (k := 17) (rho := 1) (p := some ⟨W3.heap.size, 0, none⟩) (c := 1) (ts := [exF]) (by decide) (by decide) ⟨Nat.le_refl _, by unfold maxLen; show 1 ≤ _; omega⟩ (kids_new HJ3.out rfl)
 have hb4 := below_then HB3.out (box_new (w := W3) (.cells (acells (exH 4 0) (exV (some ⟨W2.heap.size, 0, none⟩) 1) 1).toArray 31)) HB3.out.size
 have hl4 := HLA.out.below hb4
 have htx := text_walk exT _ _ _ _ hj4 (by rw [wt_T]; omega) small_ex hl4.kw hl4.num hl4.sg
 unfold TermEnd at htx
 rw [text_ex.1, text_ex.2] at htx
 have HTX := Lib.hid htx; have HB4 := Lib.hid hb4
 have hst := exText_eq
 clear hj4 hl4 htx hb4
 go_wp2_with (refine at_load rfl _ rfl N3 0 rfl HR3.out ?_)
 refine HTX.out.mono ?_
 rintro e w5 ⟨rfl, hb5⟩
 have HB5 := Lib.hid (below_then HB4.out hb5 HB4.out.size)
 clear hb5
 generalize exText = ET at *
 go_wp2_with (fail)
 go_ret
 exact ⟨rfl, HB5.out⟩
end Disp
end Go.Proofs.YtfncpcijfphngaaGreatDoor
namespace Go.Proofs.YtfncpcijfphngaaGreatDoor
open Go.RowKit
set_option linter.unusedVariables false
namespace Term

theorem refNode_walk (h : Hd) (p : Option Addr) (l c : Nat) (w : World) (ho : HdOk h) (hl : l ≤ maxLen) :
  Calls Tryz.prog 71 #[.agg #[.int .u8 h.k, .int .u8 h.op, .int .i64 h.pl, .int .i64 h.n, .string h.name, .string h.arg, .string h.exn, .slice p l c]] w fun e w' => e = .returned (.bool (nodeB h l)) ∧ Below w.heap.size w w' := by
 obtain ⟨k, op, pl, nn, nm, ar, ex⟩ := h
 obtain ⟨h1, h2, h3, h4, h5, h6, h7⟩ := ho
 simp only at h1 h2 h3 h4 h5 h6 h7
 have hl' : l ≤ 9223372036854775807 := by unfold maxLen at hl; omega
 by_cases a1 : kidsN k = l ∧ 0 ≤ pl
 ·by_cases a2 : opOk ⟨k, op, pl, nn, nm, ar, ex⟩
  ·by_cases a3 : nOk ⟨k, op, pl, nn, nm, ar, ex⟩
   ·rw [nodeB_yes (h := ⟨k, op, pl, nn, nm, ar, ex⟩) ⟨a1.1, a1.2, a2, a3⟩]
    refine node_fits k op pl nn nm ar ex p l c w h1 h2 hl' a1.1 a1.2 ?_ h5 h6 h7
    unfold opOk at a2
    unfold nOk at a3
    simp only at a2 a3
    by_cases e9 : k = 9
    ·subst e9
     rw [if_pos rfl] at a2
     exact .inl ⟨by decide, by decide, by decide, a2.1, a2.2, a3.2.2 (by omega)⟩
    ·rw [if_neg e9] at a2
     by_cases e1 : k = 1
     ·subst e1
      exact .inr (.inl ⟨by decide, by decide, a2, by decide, a3.1, a3.2.1⟩)
     ·exact .inr (.inr ⟨by simpa using e9, by simpa using e9, a2, by simpa using e1, a3.2.2 e1⟩)
   ·rw [nodeB_no (h := ⟨k, op, pl, nn, nm, ar, ex⟩) (fun h => a3 h.2.2.2)]
    exact node_ns k op pl nn nm ar ex p l c w h1 h2 hl' a1.1 a1.2 a2 a3
  ·rw [nodeB_no (h := ⟨k, op, pl, nn, nm, ar, ex⟩) (fun h => a2 h.2.2.1)]
   exact node_ops k op pl nn nm ar ex p l c w h1 h2 hl' a1.1 a1.2 a2
 ·rw [nodeB_no (h := ⟨k, op, pl, nn, nm, ar, ex⟩) (fun h => a1 ⟨h.1, h.2.1⟩)]
  exact node_kids k op pl nn nm ar ex p l c w h1 hl' a1

end Term
end Go.Proofs.YtfncpcijfphngaaGreatDoor
namespace Go.Proofs.YtfncpcijfphngaaGreatDoor
open Go.RowKit
set_option linter.unusedVariables false
set_option linter.unusedSimpArgs false
namespace Aterm
open Effect (RdI nget nget_at nget_mem ret_bool ret_i64 lt_of_block heap_alloc_new ofA)
open Rt (box_new box_at below_then)
open Words (nameB exnB)

/-- Nothing but a name, a place and kids. -/
def bareB (h : Term.Hd) : Bool := decide (h.op = 0) && decide (h.n = 0) && decide (h.arg.size = 0) && decide (h.exn.size = 0)
theorem head_17 {h : Term.Hd} (hk : h.k = 17) (l : Nat) : headOk h l = (bareB h && decide (h.name.size = 0) && decide (0 ≤ h.pl) && decide (l = 1)) := by
 obtain ⟨k, op, pl, n, nm, ar, ex⟩ := h
 simp only at hk
 subst hk
 unfold headOk likeH likeK bareB Term.nodeB Term.opOk Term.nOk Term.nameF Term.argF Term.exnF Term.fitsB Term.kidsN
 simp only [Bool.and_assoc]
 rw [Bool.eq_iff_iff]
 simp
 constructor
 ·intro hh; simp_all; try omega
 ·intro hh; simp_all; try omega
theorem head_18 {h : Term.Hd} (hk : h.k = 18) (l : Nat) : headOk h l = (bareB h && nameB h.name && decide (0 ≤ h.pl) && decide (l = 0)) := by
 obtain ⟨k, op, pl, n, nm, ar, ex⟩ := h
 simp only at hk
 subst hk
 unfold headOk likeH likeK bareB Term.nodeB Term.opOk Term.nOk Term.nameF Term.argF Term.exnF Term.fitsB Term.kidsN
 simp only [Bool.and_assoc]
 rw [Bool.eq_iff_iff]
 simp
 constructor
 ·intro hh; simp_all; try omega
 ·intro hh; simp_all; try omega
theorem head_min {h : Term.Hd} (h17 : h.k ≠ 17) (h18 : h.k ≠ 18) {l m : Nat} (hm : m = min l 4) : Term.nodeB h m = headOk h l := by
 have hl : likeH h = h := by
  unfold likeH likeK
  rw [if_neg h17, if_neg h18]
 by_cases h4 : l ≤ 3
 ·have : m = l := by omega
  unfold headOk
  rw [hl, this]
 ·rw [head_many (by omega)]
  have := head_many (h := h) (n := m) (by omega)
  unfold headOk at this
  rwa [hl] at this
theorem zero_one : ∀ u ∈ zero8.toList, u.oneCell' = true := by
 intro u hu
 simp [zero8] at hu
 rcases hu with rfl | rfl | rfl | rfl | rfl | rfl | rfl | rfl <;> rfl
theorem zero_news {w : World} {N : Nat} {ty : TypeId} (hN : N = w.heap.size) : ∀ j u, zero8.toList[j]? = some u → (w.alloc (.cells zero8 ty)).cell? ((⟨N, 0, none⟩ : Addr).add j) = some u := by
 intro j u hu
 subst hN
 rw [Addr.add_lit, Nat.zero_add, World.cell?_alloc_mark]
 simpa using hu
theorem isEmpty_yes {s : ByteArray} (h : s.size = 0) : s.toList.isEmpty = true := by
 have : s.toList = [] := by rw [Lib.toList_data]; exact List.length_eq_zero_iff.1 h
 rw [this]; rfl
theorem isEmpty_no {s : ByteArray} (h : ¬ s.size = 0) : s.toList.isEmpty = false := by
 have : s.toList ≠ [] := by rw [Lib.toList_data]; exact fun e => h (by have := congrArg List.length e; simpa using this)
 simpa using this
/-- The boxes of head: what is read, the head, the term that grows. -/
structure HeadAt (w : World) (h : Hd) (v : V) (l : Nat) (j : Nat) (a : Option Addr) (c0 : Nat) (W : World) : Prop where
 below : Below w.heap.size w W
 box : W.heap[w.heap.size]? = some (.cells #[.int .u8 h.h.k, .int .u8 h.h.op, .int .i64 h.h.pl, .int .i64 h.h.n, .string h.h.name, .string h.h.arg, .string h.h.exn, .int .i64 h.rho, .slice v.ra h.rhos.length v.rc, .slice v.ea h.e.length v.ec, .int .u8 h.ty.h.k, .int .i64 h.ty.h.r, .slice v.tea h.ty.h.e.length v.tec, .slice v.tka h.ty.ks.length v.tkc, .int .u8 h.re.h.k, .int .i64 h.re.h.r, .slice v.sea h.re.h.e.length v.sec, .slice v.ska h.re.ks.length v.skc, .slice v.ka l v.kc] 31 (0, 0))
 out : W.heap[w.heap.size + 2]? = some (.cells #[.int .u8 h.h.k, .int .u8 h.h.op, .int .i64 h.h.pl, .int .i64 h.h.n, .string h.h.name, .string h.h.arg, .string h.h.exn, .slice a j c0] 95 (0, 0))
 row : ∃ xs, W.ownsRow (w.heap.size + 3) 95 8 (.slice a j c0) j xs
/-- One more. -/
theorem head_step {w : World} {h : Hd} {v : V} {l j : Nat} {a : Option Addr} {c0 : Nat} {wr w3 : World} {O : Obj} {v3 : Value} {xs ys : List Value} (hA : HeadAt w h v l j a c0 wr) (hown : wr.ownsRow (w.heap.size + 3) 95 8 (.slice a j c0) j xs)
  (hown3 : w3.ownsRow (w.heap.size + 3) 95 8 v3 (j + 1) ys) (hg : (wr.alloc O).grownBy w3 (Value.slice a j c0).ownBlock) :
  (w3.cell? ⟨w.heap.size + 2, 7, none⟩ = some (.slice a j c0) ∧ w3.frozen? ⟨w.heap.size + 2, 7, none⟩ = false) ∧ ∃ a3 c3, v3 = .slice a3 (j + 1) c3 ∧ HeadAt w h v l (j + 1) a3 c3 (w3.setCell ⟨w.heap.size + 2, 7, none⟩ v3) := by
 have hge : ∀ g, (Value.slice a j c0).ownBlock = some g → w.heap.size + 3 ≤ g := fun g hgg => (hown.lt g hgg).1
 have hlo := lt_of_block hA.out
 have hstay : ∀ b, b < w.heap.size + 3 → w3.heap[b]? = wr.heap[b]? := fun b hb => by
  rw [hg.block b (by simp; omega) (fun e => by have := hge b e.symm; omega)]
  exact (box_new (w := wr) O).block b (by omega)
 have hout3 := (hstay (w.heap.size + 2) (by omega)).trans hA.out
 have hoth : ∀ b, b ≠ w.heap.size + 2 → (w3.setCell ⟨w.heap.size + 2, 7, none⟩ v3).heap[b]? = w3.heap[b]? := fun b hb => Below.heap_setCell _ _ _ _ hb
 obtain ⟨a3, c3, rfl, _, _⟩ := own_cap hown3
 have hb1 : Below w.heap.size w (wr.alloc O) := below_then hA.below (box_new _) hA.below.size
 refine ⟨⟨by simp [World.cell?, hout3], by simp [World.frozen?, hout3]⟩, a3, c3, rfl, (hb1.grown hg hb1.size (fun g hgg => by have := hge g hgg; omega)).setCell (p := ⟨w.heap.size + 2, 7, none⟩) (by show w.heap.size ≤ w.heap.size + 2; omega) _, ?_, ?_, ys, ownsRow_setCell_below hown3 (a := ⟨w.heap.size + 2, 7, none⟩) (by show w.heap.size + 2 < w.heap.size + 3; omega) _⟩
 ·exact (hoth _ (by omega)).trans ((hstay _ (by omega)).trans hA.box)
 ·simp [World.setCell, Array.getElem?_modify, hout3]
set_option maxRecDepth 100000 in
set_option maxHeartbeats 6400000 in
theorem head_walk (t : AT) (h : Hd) (v : V) (l : Nat) (w : World) (hT : AtIs w h v l t) :
  Calls Tryz.prog 45 #[.agg #[.int .u8 h.h.k, .int .u8 h.h.op, .int .i64 h.h.pl, .int .i64 h.h.n, .string h.h.name, .string h.h.arg, .string h.h.exn, .int .i64 h.rho, .slice v.ra h.rhos.length v.rc, .slice v.ea h.e.length v.ec, .int .u8 h.ty.h.k, .int .i64 h.ty.h.r, .slice v.tea h.ty.h.e.length v.tec, .slice v.tka h.ty.ks.length v.tkc, .int .u8 h.re.h.k, .int .i64 h.re.h.r, .slice v.sea h.re.h.e.length v.sec, .slice v.ska h.re.ks.length v.skc, .slice v.ka l v.kc]] w fun e w' => e = .returned (.bool (headOk h.h l)) ∧ Below w.heap.size w w' := by
 have hlc := (capA hT).1
 have hok := hT.ok.hd
 have hname := fun W => Words.refName_walk h.h.name W hok.name
 have HNAME := Lib.hid hname; have HOK := Lib.hid hok
 clear hname hok hT
 go_enter Tryz.func45, Tryz.ntmps45
 go_upto_region 1 with (fail)
 obtain ⟨W0, hW0⟩ : ∃ W0, W0 = w.alloc (.cells #[.int .u8 h.h.k, .int .u8 h.h.op, .int .i64 h.h.pl, .int .i64 h.h.n, .string h.h.name, .string h.h.arg, .string h.h.exn, .int .i64 h.rho, .slice v.ra h.rhos.length v.rc, .slice v.ea h.e.length v.ec, .int .u8 h.ty.h.k, .int .i64 h.ty.h.r, .slice v.tea h.ty.h.e.length v.tec, .slice v.tka h.ty.ks.length v.tkc, .int .u8 h.re.h.k, .int .i64 h.re.h.r, .slice v.sea h.re.h.e.length v.sec, .slice v.ska h.re.ks.length v.skc, .slice v.ka l v.kc] 31) := ⟨_, rfl⟩
 have hbk : W0.heap[w.heap.size]? = some (.cells #[.int .u8 h.h.k, .int .u8 h.h.op, .int .i64 h.h.pl, .int .i64 h.h.n, .string h.h.name, .string h.h.arg, .string h.h.exn, .int .i64 h.rho, .slice v.ra h.rhos.length v.rc, .slice v.ea h.e.length v.ec, .int .u8 h.ty.h.k, .int .i64 h.ty.h.r, .slice v.tea h.ty.h.e.length v.tec, .slice v.tka h.ty.ks.length v.tkc, .int .u8 h.re.h.k, .int .i64 h.re.h.r, .slice v.sea h.re.h.e.length v.sec, .slice v.ska h.re.ks.length v.skc, .slice v.ka l v.kc] 31 (0, 0)) := by rw [hW0]; exact heap_alloc_new _ _
 have hsz : W0.heap.size = w.heap.size + 1 := by rw [hW0]; simp
 have hb0 : Below w.heap.size w W0 := by rw [hW0]; exact box_new _
 rw [← hW0]
 clear hW0
 obtain ⟨b0, b1, b2, b3, b4, b5, b6, b7, b8, b9, b10, b11, b12, b13, b14, b15, b16, b17, b18⟩ := box_blk hbk
 have HB0 := Lib.hid hb0; have HBK := Lib.hid hbk; have HSZ := Lib.hid hsz
 clear hb0 hbk b7 b8 b9 b10 b11 b12 b13 b14 b15 b16 b17
 go_upto_region 2 with (fail)
 have hn1 := heap_alloc_new W0 (.cells #[.int .u8 h.h.k, .int .u8 h.h.op, .int .i64 h.h.pl, .int .i64 h.h.n, .string h.h.name, .string h.h.arg, .string h.h.exn] 23)
 have hb1 := box_new (w := W0) (.cells #[.int .u8 h.h.k, .int .u8 h.h.op, .int .i64 h.h.pl, .int .i64 h.h.n, .string h.h.name, .string h.h.arg, .string h.h.exn] 23)
 have hs1 : (W0.alloc (.cells #[.int .u8 h.h.k, .int .u8 h.h.op, .int .i64 h.h.pl, .int .i64 h.h.n, .string h.h.name, .string h.h.arg, .string h.h.exn] 23)).heap.size = w.heap.size + 2 := by simp [hsz]
 generalize hW1 : W0.alloc (.cells #[.int .u8 h.h.k, .int .u8 h.h.op, .int .i64 h.h.pl, .int .i64 h.h.n, .string h.h.name, .string h.h.arg, .string h.h.exn] 23) = W1 at hn1 hb1 hs1 ⊢
 clear hW1
 rw [hsz] at hn1
 try rw [hsz]
 have c0 : W1.cell? ⟨w.heap.size + 1, 0, none⟩ = some (.int .u8 h.h.k) := by simp [World.cell?, hn1]
 have c1 : W1.cell? ⟨w.heap.size + 1, 1, none⟩ = some (.int .u8 h.h.op) := by simp [World.cell?, hn1]
 have c2 : W1.cell? ⟨w.heap.size + 1, 2, none⟩ = some (.int .i64 h.h.pl) := by simp [World.cell?, hn1]
 have c3 : W1.cell? ⟨w.heap.size + 1, 3, none⟩ = some (.int .i64 h.h.n) := by simp [World.cell?, hn1]
 have c4 : W1.cell? ⟨w.heap.size + 1, 4, none⟩ = some (.string h.h.name) := by simp [World.cell?, hn1]
 have c5 : W1.cell? ⟨w.heap.size + 1, 5, none⟩ = some (.string h.h.arg) := by simp [World.cell?, hn1]
 have c6 : W1.cell? ⟨w.heap.size + 1, 6, none⟩ = some (.string h.h.exn) := by simp [World.cell?, hn1]
 have hbk1 := (hb1.block _ (lt_of_block HBK.out)).trans HBK.out
 have HBK1 := Lib.hid hbk1; have HB1 := Lib.hid (below_then HB0.out hb1 HB0.out.size); have HS1 := Lib.hid hs1
 have HNX := Lib.hid hn1
 clear b0 b1 b2 b3 b4 b5 b6 b18 hn1 hb1 hs1 hsz
 obtain ⟨b0, b1, b2, b3, b4, b5, b6, b7, b8, b9, b10, b11, b12, b13, b14, b15, b16, b17, b18⟩ := box_blk hbk1
 clear hbk1 b1 b2 b3 b4 b5 b6 b7 b8 b9 b10 b11 b12 b13 b14 b15 b16 b17
 have hbare : ((h.h.op == 0) = false ∧ bareB h.h = false) ∨ ((h.h.op == 0) = true ∧ (h.h.n == 0) = false ∧ bareB h.h = false) ∨ ((h.h.op == 0) = true ∧ (h.h.n == 0) = true ∧ h.h.arg.toList.isEmpty = false ∧ bareB h.h = false) ∨ ((h.h.op == 0) = true ∧ (h.h.n == 0) = true ∧ h.h.arg.toList.isEmpty = true ∧ h.h.exn.toList.isEmpty = false ∧ bareB h.h = false) ∨ ((h.h.op == 0) = true ∧ (h.h.n == 0) = true ∧ h.h.arg.toList.isEmpty = true ∧ h.h.exn.toList.isEmpty = true ∧ bareB h.h = true) := by
  unfold bareB
  by_cases e1 : h.h.op = 0
  ·by_cases e2 : h.h.n = 0
   ·by_cases e3 : h.h.arg.size = 0
    ·by_cases e4 : h.h.exn.size = 0
     ·exact .inr (.inr (.inr (.inr ⟨by simpa using e1, by simpa using e2, isEmpty_yes e3, isEmpty_yes e4, by rw [e1, e2, e3, e4]; rfl⟩)))
     ·exact .inr (.inr (.inr (.inl ⟨by simpa using e1, by simpa using e2, isEmpty_yes e3, isEmpty_no e4, by rw [decide_eq_false e4]; simp⟩)))
    ·exact .inr (.inr (.inl ⟨by simpa using e1, by simpa using e2, isEmpty_no e3, by rw [decide_eq_false e3]; simp⟩))
   ·exact .inr (.inl ⟨by simpa using e1, by simpa using e2, by rw [decide_eq_false e2]; simp⟩)
  ·exact .inl ⟨by simpa using e1, by rw [decide_eq_false e1]; simp⟩
 go_cut [4] (fun s4 wx => wx = W1 ∧ s4 = .bool (bareB h.h))
 case first =>
  clear c0 c2 c4 b0 b18
  rcases hbare with ⟨f1, hb⟩ | ⟨f1, f2, hb⟩ | ⟨f1, f2, f3, hb⟩ | ⟨f1, f2, f3, f4, hb⟩ | ⟨f1, f2, f3, f4, hb⟩
  all_goals
   have HBE := Lib.hid hb
   clear hb
   go_wp2_with (fail)
   go_meet
   exact ⟨rfl, by rw [HBE.out]⟩
 case rest =>
  obtain ⟨rfl, rfl⟩ := hcut
  clear hbare c1 c3 c5 c6
  by_cases h17 : h.h.k = 17
  ·have hr := head_17 h17 l
   have e17 : (h.h.k == 17) = true := by simpa using h17
   have HR := Lib.hid hr
   clear hr h17
   have hl1 : decide (l = 1) = ((l : Int) == 1) := by
    by_cases e : l = 1
    ·rw [e]; rfl
    ·rw [decide_eq_false e]; symm; rw [beq_eq_false_iff_ne]; omega
   have hnm : decide (h.h.name.size = 0) = h.h.name.toList.isEmpty := by
    by_cases e : h.h.name.size = 0
    ·rw [isEmpty_yes e, decide_eq_true e]
    ·rw [isEmpty_no e, decide_eq_false e]
   have HL1 := Lib.hid hl1; have HNM := Lib.hid hnm
   clear hl1 hnm
   cases hb : bareB h.h
   ·have HR2 := Lib.hid (show headOk h.h l = false by rw [HR.out, hb]; rfl)
    clear hb
    go_wp2_with (fail)
    go_ret
    exact ⟨ret_bool HR2.out.symm, HB1.out⟩
   cases hn : h.h.name.toList.isEmpty
   ·have HR2 := Lib.hid (show headOk h.h l = false by rw [HR.out, hb, HNM.out, hn]; rfl)
    clear hb
    go_wp2_with (fail)
    go_ret
    exact ⟨ret_bool HR2.out.symm, HB1.out⟩
   by_cases hp : 0 ≤ h.h.pl
   ·have hd : decide (0 ≤ h.h.pl) = true := decide_eq_true hp
    have HR2 := Lib.hid (show headOk h.h l = ((l : Int) == 1) by rw [HR.out, hb, HNM.out, hn, hd, HL1.out]; rfl)
    clear hb hp
    go_wp2_with (fail)
    go_ret
    exact ⟨ret_bool HR2.out.symm, HB1.out⟩
   ·have hd : decide (0 ≤ h.h.pl) = false := decide_eq_false hp
    have HR2 := Lib.hid (show headOk h.h l = false by rw [HR.out, hb, HNM.out, hn, hd]; rfl)
    clear hb hp
    go_wp2_with (fail)
    go_ret
    exact ⟨ret_bool HR2.out.symm, HB1.out⟩
  have e17 : (h.h.k == 17) = false := by simpa using h17
  by_cases h18 : h.h.k = 18
  ·have hr := head_18 h18 l
   have e18 : (h.h.k == 18) = true := by simpa using h18
   have hl0 : decide (l = 0) = ((l : Int) == 0) := by
    by_cases e : l = 0
    ·rw [e]; rfl
    ·rw [decide_eq_false e]; symm; rw [beq_eq_false_iff_ne]; omega
   have HR := Lib.hid hr; have HL0 := Lib.hid hl0
   clear hr h17 h18 hl0
   cases hb : bareB h.h
   ·have HR2 := Lib.hid (show headOk h.h l = false by rw [HR.out, hb]; rfl)
    clear hb
    go_wp2_with (fail)
    go_ret
    exact ⟨ret_bool HR2.out.symm, HB1.out⟩
   have HBB := Lib.hid hb
   clear hb
   go_wp2_with (fail)
   refine (HNAME.out wc).mono ?_
   rintro e w2 ⟨rfl, hb2⟩
   have d2 : w2.cell? ⟨w.heap.size + 1, 2, none⟩ = some (.int .i64 h.h.pl) := (hb2.cell (p := ⟨w.heap.size + 1, 2, none⟩) (World.block_lt_of_cell? _ _ c2)).trans c2
   have d18 : w2.cell? ⟨w.heap.size, 18, none⟩ = some (.slice v.ka l v.kc) := (hb2.cell (p := ⟨w.heap.size, 18, none⟩) (World.block_lt_of_cell? _ _ b18)).trans b18
   have HB2 := Lib.hid (below_then HB1.out hb2 HB1.out.size)
   clear hb2 c0 c2 c4 b0 b18
   cases hn : nameB h.h.name
   ·have HR2 := Lib.hid (show headOk h.h l = false by rw [HR.out, HBB.out, hn]; rfl)
    go_wp2_with (fail)
    go_ret
    exact ⟨ret_bool HR2.out.symm, HB2.out⟩
   by_cases hp : 0 ≤ h.h.pl
   ·have hd : decide (0 ≤ h.h.pl) = true := decide_eq_true hp
    have HR2 := Lib.hid (show headOk h.h l = ((l : Int) == 0) by rw [HR.out, HBB.out, hn, hd, HL0.out]; rfl)
    clear hp
    go_wp2_with (fail)
    go_ret
    exact ⟨ret_bool HR2.out.symm, HB2.out⟩
   ·have hd : decide (0 ≤ h.h.pl) = false := decide_eq_false hp
    have HR2 := Lib.hid (show headOk h.h l = false by rw [HR.out, HBB.out, hn, hd]; rfl)
    clear hp
    go_wp2_with (fail)
    go_ret
    exact ⟨ret_bool HR2.out.symm, HB2.out⟩
  have e18 : (h.h.k == 18) = false := by simpa using h18
  have HMIN := Lib.hid (fun m (hm : m = min l 4) => head_min h17 h18 hm)
  have c1 : wc.cell? ⟨w.heap.size + 1, 1, none⟩ = some (.int .u8 h.h.op) := by simp [World.cell?, HNX.out]
  have c3 : wc.cell? ⟨w.heap.size + 1, 3, none⟩ = some (.int .i64 h.h.n) := by simp [World.cell?, HNX.out]
  have c5 : wc.cell? ⟨w.heap.size + 1, 5, none⟩ = some (.string h.h.arg) := by simp [World.cell?, HNX.out]
  have c6 : wc.cell? ⟨w.heap.size + 1, 6, none⟩ = some (.string h.h.exn) := by simp [World.cell?, HNX.out]
  clear h17 h18
  go_upto_region 8 with (fail)
  have hn2 := heap_alloc_new wc (.cells #[.int .u8 h.h.k, .int .u8 h.h.op, .int .i64 h.h.pl, .int .i64 h.h.n, .string h.h.name, .string h.h.arg, .string h.h.exn, .slice none 0 0] 95)
  have hb2 := box_new (w := wc) (.cells #[.int .u8 h.h.k, .int .u8 h.h.op, .int .i64 h.h.pl, .int .i64 h.h.n, .string h.h.name, .string h.h.arg, .string h.h.exn, .slice none 0 0] 95)
  rw [HS1.out] at hn2
  have hA0 : HeadAt w h v l 0 none 0 (wc.alloc (.cells #[.int .u8 h.h.k, .int .u8 h.h.op, .int .i64 h.h.pl, .int .i64 h.h.n, .string h.h.name, .string h.h.arg, .string h.h.exn, .slice none 0 0] 95)) := ⟨below_then HB1.out hb2 HB1.out.size, (hb2.block _ (lt_of_block HBK1.out)).trans HBK1.out, hn2, ⟨[], World.ownsRow_nil _ _ _ _⟩⟩
  have HA0 := Lib.hid hA0
  rw [HS1.out]
  generalize wc.alloc (.cells #[.int .u8 h.h.k, .int .u8 h.h.op, .int .i64 h.h.pl, .int .i64 h.h.n, .string h.h.name, .string h.h.arg, .string h.h.exn, .slice none 0 0] 95) = W3 at HA0 ⊢
  clear hn2 hb2 hA0 c0 c1 c2 c3 c4 c5 c6 b0 b18
  obtain ⟨i0, hi0, hz0, hz1, hz2⟩ := info_parts Term.infoTerm
  have HI0 := Lib.hid hi0; have HZ0 := Lib.hid hz0; have HZ1 := Lib.hid hz1; have HZ2 := Lib.hid hz2
  clear hi0 hz0 hz1 hz2
  have hnode := fun (m : Nat) (a : Option Addr) (c : Nat) (W : World) (hm : m ≤ 4) => Term.refNode_walk h.h a m c W HOK.out (by unfold maxLen; omega)
  have HNODE := Lib.hid hnode
  clear hnode
  go_wp2_with (fail)
  go_loopw [6] (fun i wr => ∃ (j : Nat) (a : Option Addr) (c0 : Nat), j ≤ l ∧ j ≤ 4 ∧ i = .int .i64 j ∧ Hid (HeadAt w h v l j a c0 wr)) (fun i _ => 4 - (intOf i).toNat)
  case atStart => exact ⟨0, none, 0, Nat.zero_le _, by omega, rfl, HA0⟩
  case round =>
   obtain ⟨j, a, c0, hjl, hj4, rfl, HA⟩ := hrel
   obtain ⟨b0, b1, b2, b3, b4, b5, b6, b7, b8, b9, b10, b11, b12, b13, b14, b15, b16, b17, b18⟩ := box_blk HA.out.box
   obtain ⟨⟨o0, o1, o2, o3, o4, o5, o6, o7⟩, f0, f1, f2, f3, f4, f5, f6, f7⟩ := cells8t HA.out.out
   clear b0 b1 b2 b3 b4 b5 b6 b7 b8 b9 b10 b11 b12 b13 b14 b15 b16 b17 f0 f1 f2 f3 f4 f5 f6
   by_cases hgo : j < l ∧ j < 4
   ·have g1 : decide ((j : Int) < (l : Int)) = true := decide_eq_true (by omega)
    have g2 : decide ((j : Int) < 4) = true := decide_eq_true (by omega)
    have gj : (j : Int) < 4 := by omega
    have gl : j < l := hgo.1
    obtain ⟨xs, hown⟩ := HA.out.row
    have hlo := lt_of_block HA.out.out
    have HOWN := Lib.hid hown; have HLO := Lib.hid hlo
    clear hown hlo o0 o1 o2 o3 o4 o5 o6
    go_wp2_with (at_builtin; refine wpList_append_own _ rfl (.tmp 83) (.tmp 85) 93 rfl (w.heap.size + 3) 95 i0 _ 8 96 Tryz.underlying93 HI0.out HZ0.out HZ1.out HZ2.out rfl (by omega) (.slice a j c0) j xs rfl (own_below HOWN.out (box_new _)) ⟨wr.heap.size, 0, none⟩ 1 1 zero8.toList rfl rfl (zero_news rfl) zero_one (by unfold maxLen; omega) (by omega) (by have := HLO.out; simp; omega) ?_; intro v3 w3 hown3 hgrow3 hnil3; obtain ⟨⟨s0, s1⟩, a3, c3, rfl, hh⟩ := head_step HA.out HOWN.out hown3 hgrow3; have HH := Lib.hid hh; clear hown3 hgrow3 hnil3 hh)
    go_roundw
    ·exact ⟨j + 1, a3, c3, gl, by omega, by simp, HH⟩
    ·simp [intOf]
     omega
   ·have hj : j = min l 4 := by omega
    have hm4 : j ≤ 4 := hj4
    have HM := Lib.hid (HMIN.out j hj)
    by_cases gl : j < l
    ·have g1 : decide ((j : Int) < (l : Int)) = true := decide_eq_true (by omega)
     have g2 : decide ((j : Int) < 4) = false := decide_eq_false (by omega)
     go_wp2_with (fail)
     refine (HNODE.out _ a c0 wr (by omega)).mono ?_
     rintro e w2 ⟨rfl, hb2⟩
     have HB2 := Lib.hid (below_then HA.out.below hb2 HA.out.below.size)
     rw [HMIN.out _ rfl]
     go_wp2_with (fail)
     go_ret
     exact ⟨rfl, HB2.out⟩
    ·have g1 : decide ((j : Int) < (l : Int)) = false := decide_eq_false (by omega)
     go_wp2_with (fail)
     refine (HNODE.out _ a c0 wr (by omega)).mono ?_
     rintro e w2 ⟨rfl, hb2⟩
     have HB2 := Lib.hid (below_then HA.out.below hb2 HA.out.below.size)
     rw [HMIN.out _ rfl]
     go_wp2_with (fail)
     go_ret
     exact ⟨rfl, HB2.out⟩
end Aterm
end Go.Proofs.YtfncpcijfphngaaGreatDoor
