/-The document's example: mathematics, and how it lies. (Written by wip/tools/atawake.py.) The walk of the document's example. (Written by wip/tools/atawake.py.) The walk of the document's Apart of terms with regions. The walk of 'which regions any terms bind, ..'. (Written by wip/tools/atbindslaw.py.) From what a row lists of the keywords to what layer 2's walks ask of the world. -/
import Derived.Test.YtolpdhkgkjnbfaaDoorGC12
import Derived.Test.YtolpdhkgkjnbfaaDoorGC06
import Derived.Test.YtolpdhkgkjnbfaaDoorGC07
import Derived.Test.YtolpdhkgkjnbfaaDoorGC08
import Derived.Test.YtolpdhkgkjnbfaaDoorGC05
import Derived.Test.YtolpdhkgkjnbfaaDoorGC09
import Derived.Test.YtolpdhkgkjnbfaaDoorGC00
import Derived.Stop.LaidErr
import Derived.LaidMore
import Derived.LaidByTextLater
namespace Go.Proofs.YtolpdhkgkjnbfaaDoor
open Go.RowKit
set_option linter.unusedVariables false
set_option linter.unusedSimpArgs false
namespace Aterm
open Effect (RdI nget nget_at nget_mem ret_bool ret_i64 lt_of_block heap_alloc_new ofA)
open Rt (box_new box_at below_then)

def exH (k rho : Int) : Hd := ⟨⟨k, 0, 0, 0, ⟨#[]⟩, ⟨#[]⟩, ⟨#[]⟩⟩, rho, [], [], .node ⟨0, 0, []⟩ [], .node ⟨0, 0, []⟩ []⟩
def exV (p : Option Addr) (c : Nat) : V := ⟨none, 0, none, 0, none, 0, none, 0, none, 0, none, 0, p, c⟩
def exN : AT := .node (exH 1 0) []
def exP : AT := .node (exH 3 1) [exN, exN]
def exF : AT := .node (exH 4 0) [exP]
def exT : AT := .node (exH 17 1) [exF]
theorem wt_N : wt exN = 1 := by unfold exN; rw [wt_ks]; simp only [AT.ks]; rw [wts_nil]
theorem wt_P : wt exP = 3 := by unfold exP; rw [wt_ks]; simp only [AT.ks]; rw [wts_cons, wts_cons, wts_nil, wt_N]
theorem wt_F : wt exF = 4 := by unfold exF; rw [wt_ks]; simp only [AT.ks]; rw [wts_cons, wts_nil, wt_P]
theorem wt_T : wt exT = 5 := by unfold exT; rw [wt_ks]; simp only [AT.ks]; rw [wts_cons, wts_nil, wt_F]
theorem all_ex (B : Hd → Nat → Bool) (h1 : B (exH 1 0) 0 = true) (h2 : B (exH 3 1) 2 = true) (h3 : B (exH 4 0) 1 = true) (h4 : B (exH 17 1) 1 = true) : allT B exT = true := by
  have n : allT B exN = true := by unfold exN; rw [allT_eq]; simp only [AT.h, AT.ks, List.length_nil]; rw [h1, allK_nil]; rfl
  have p : allT B exP = true := by unfold exP; rw [allT_eq]; simp only [AT.h, AT.ks, List.length_cons, List.length_nil]; rw [show B (exH 3 1) (0 + 1 + 1) = true from h2, allK_cons, allK_cons, allK_nil, n]; rfl
  have f : allT B exF = true := by unfold exF; rw [allT_eq]; simp only [AT.h, AT.ks, List.length_cons, List.length_nil]; rw [show B (exH 4 0) (0 + 1) = true from h3, allK_cons, allK_nil, p]; rfl
  unfold exT; rw [allT_eq]; simp only [AT.h, AT.ks, List.length_cons, List.length_nil]; rw [show B (exH 17 1) (0 + 1) = true from h4, allK_cons, allK_nil, f]; rfl
theorem may_ex : mayT exT = true := by
  unfold mayT
  rw [wt_T, all_ex nodeB (by decide) (by decide) (by decide) (by decide)]
  rfl
theorem small_ex : allT smallB exT = true := all_ex smallB (by decide) (by decide) (by decide) (by decide)
def exE : Term.Tm := .node ⟨4, 0, 0, 0, ⟨#[]⟩, ⟨#[]⟩, ⟨#[]⟩⟩ [.node ⟨3, 0, 0, 0, ⟨#[]⟩, ⟨#[]⟩, ⟨#[]⟩⟩ [.node ⟨1, 0, 0, 0, ⟨#[]⟩, ⟨#[]⟩, ⟨#[]⟩⟩ [], .node ⟨1, 0, 0, 0, ⟨#[]⟩, ⟨#[]⟩, ⟨#[]⟩⟩ []]]
theorem erase_ex : eraseT exT = exE := by
  have n : eraseT exN = .node ⟨1, 0, 0, 0, ⟨#[]⟩, ⟨#[]⟩, ⟨#[]⟩⟩ [] := by unfold exN; rw [eraseT_no (by intro h; exact h.2 rfl)]; simp only [AT.h, AT.ks]; rw [eraseK_nil]; rfl
  have p : eraseT exP = .node ⟨3, 0, 0, 0, ⟨#[]⟩, ⟨#[]⟩, ⟨#[]⟩⟩ [.node ⟨1, 0, 0, 0, ⟨#[]⟩, ⟨#[]⟩, ⟨#[]⟩⟩ [], .node ⟨1, 0, 0, 0, ⟨#[]⟩, ⟨#[]⟩, ⟨#[]⟩⟩ []] := by
    unfold exP
    rw [eraseT_no (by intro h; exact absurd h.1 (by decide))]; simp only [AT.h, AT.ks]; rw [eraseK_cons, eraseK_cons, eraseK_nil, n]; rfl
  have f : eraseT exF = exE := by
    unfold exF
    rw [eraseT_no (by intro h; exact absurd h.1 (by decide))]; simp only [AT.h, AT.ks]; rw [eraseK_cons, eraseK_nil, p]; rfl
  rw [eraseT_reg (u := exF) (us := []) rfl rfl, f]
theorem ex_is {w : World} {k rho : Int} {p : Option Addr} {c : Nat} {ts : List AT} (hk : 0 ≤ k ∧ k ≤ 255) (hr : 0 ≤ rho ∧ rho ≤ 255) (hc : ts.length ≤ c ∧ c ≤ maxLen) (hks : Kids w p ts) : AtIs w (exH k rho) (exV p c) ts.length (.node (exH k rho) ts) :=
  ⟨rfl, rfl, ⟨⟨hk, by show (0 : Int) ≤ 0 ∧ (0 : Int) ≤ 255; omega, by show (-9223372036854775808 : Int) ≤ 0 ∧ (0 : Int) ≤ 9223372036854775807; omega, by show (-9223372036854775808 : Int) ≤ 0 ∧ (0 : Int) ≤ 9223372036854775807; omega, by show 0 ≤ maxLen; exact Nat.zero_le _, by show 0 ≤ maxLen; exact Nat.zero_le _, by show 0 ≤ maxLen; exact Nat.zero_le _⟩,
    by show -9223372036854775808 ≤ rho ∧ rho ≤ 9223372036854775807; omega, ⟨rfl, .inl rfl, fun x hx => by cases hx⟩, ⟨Nat.le_refl _, by show 0 ≤ maxLen; exact Nat.zero_le _⟩, zeroEff w, (fun x hx => by cases hx), zeroRt w, zeroRt w⟩, hc, hks⟩
/-- A term that is laid into a block that was made last, its number spelled otherwise. -/
theorem at_store2 {ops : Array Oper} {rest : List Oper} {op : Oper} {a : Act} {w0 : World} {Q : Exit → Act → World → Prop} (hgd : op.guard = none) (x y : Operand) (ho : op.op = .store 33 x y) (c : Array Value) (hc : c.size = 19)
    (h : Hd) (v : V) (l : Nat) (N : Nat) (hN : N = w0.heap.size) (hx : a.eval x = .pointer (some ⟨N, 0, none⟩)) (hy : a.eval y = .agg #[.int .u8 h.h.k, .int .u8 h.h.op, .int .i64 h.h.pl, .int .i64 h.h.n, .string h.h.name, .string h.h.arg, .string h.h.exn, .int .i64 h.rho, .slice v.ra h.rhos.length v.rc, .slice v.ea h.e.length v.ec, .int .u8 h.ty.h.k, .int .i64 h.ty.h.r, .slice v.tea h.ty.h.e.length v.tec, .slice v.tka h.ty.ks.length v.tkc, .int .u8 h.re.h.k, .int .i64 h.re.h.r, .slice v.sea h.re.h.e.length v.sec, .slice v.ska h.re.ks.length v.skc, .slice v.ka l v.kc])
    (k : wpList Tryd.prog ops Q rest (a.put op.dst undef) (w0.alloc (.cells #[.int .u8 h.h.k, .int .u8 h.h.op, .int .i64 h.h.pl, .int .i64 h.h.n, .string h.h.name, .string h.h.arg, .string h.h.exn, .int .i64 h.rho, .slice v.ra h.rhos.length v.rc, .slice v.ea h.e.length v.ec, .int .u8 h.ty.h.k, .int .i64 h.ty.h.r, .slice v.tea h.ty.h.e.length v.tec, .slice v.tka h.ty.ks.length v.tkc, .int .u8 h.re.h.k, .int .i64 h.re.h.r, .slice v.sea h.re.h.e.length v.sec, .slice v.ska h.re.ks.length v.skc, .slice v.ka l v.kc] 33))) : wpList Tryd.prog ops Q (op :: rest) a (w0.alloc (.cells c 33)) := by
  subst hN
  exact at_store hgd x y ho c hc h v l hx hy k
theorem of_world {P : Program} {c : Code} {Q : Exit → Act → World → Prop} {a : Act} {W : World} {F : World → Prop} (hf : F W) (h : ∀ W2, F W2 → Code.wp P c Q a W2) : Code.wp P c Q a W := h W hf
/-- Kids that are laid, one after the other. -/
theorem kids_laid {W : World} {g : Nat} {ts : List AT} (h : ∀ i, i < ts.length → ∃ v, AtIs W (tget ts i).h v (tget ts i).ks.length (tget ts i) ∧ W.rangeAt g (i * 19) (acells (tget ts i).h v (tget ts i).ks.length)) : Kids W (some ⟨g, 0, none⟩) ts := by
  have h' : ∀ i, ∃ v, i < ts.length → AtIs W (tget ts i).h v (tget ts i).ks.length (tget ts i) ∧ W.rangeAt g (i * 19) (acells (tget ts i).h v (tget ts i).ks.length) := fun i => by
    by_cases hi : i < ts.length
    · obtain ⟨v, hv⟩ := h i hi
      exact ⟨v, fun _ => hv⟩
    · exact ⟨v0, fun hn => absurd hn hi⟩
  obtain ⟨F, hF⟩ := Classical.axiomOfChoice h'
  refine .atkids g 0 ts F (fun i hi => (hF i hi).1.ok) (fun i hi j x hx => ?_) (fun i hi => (hF i hi).1.cap) (fun i hi => (hF i hi).1.kids)
  have := (hF i hi).2 j x hx
  rw [Nat.zero_add]; exact this
theorem kids_new {w : World} {t : AT} {h : Hd} {v : V} {l : Nat} (hT : AtIs w h v l t) {ty : TypeId} {N : Nat} (hN : N = w.heap.size) : Kids (w.alloc (.cells #[.int .u8 h.h.k, .int .u8 h.h.op, .int .i64 h.h.pl, .int .i64 h.h.n, .string h.h.name, .string h.h.arg, .string h.h.exn, .int .i64 h.rho, .slice v.ra h.rhos.length v.rc, .slice v.ea h.e.length v.ec, .int .u8 h.ty.h.k, .int .i64 h.ty.h.r, .slice v.tea h.ty.h.e.length v.tec, .slice v.tka h.ty.ks.length v.tkc, .int .u8 h.re.h.k, .int .i64 h.re.h.r, .slice v.sea h.re.h.e.length v.sec, .slice v.ska h.re.ks.length v.skc, .slice v.ka l v.kc] ty)) (some ⟨N, 0, none⟩) [t] := by
  have hT' := hT.below (box_new (w := w) (.cells #[.int .u8 h.h.k, .int .u8 h.h.op, .int .i64 h.h.pl, .int .i64 h.h.n, .string h.h.name, .string h.h.arg, .string h.h.exn, .int .i64 h.rho, .slice v.ra h.rhos.length v.rc, .slice v.ea h.e.length v.ec, .int .u8 h.ty.h.k, .int .i64 h.ty.h.r, .slice v.tea h.ty.h.e.length v.tec, .slice v.tka h.ty.ks.length v.tkc, .int .u8 h.re.h.k, .int .i64 h.re.h.r, .slice v.sea h.re.h.e.length v.sec, .slice v.ska h.re.ks.length v.skc, .slice v.ka l v.kc] ty))
  have hr := row_new (W := w) hN (h := h) (v := v) (l := l) (ty := ty)
  have e1 := hT.head
  have e2 := hT.len
  subst e1 e2
  refine kids_laid fun i hi => ?_
  have hi0 : i = 0 := by simp at hi; omega
  subst hi0
  exact ⟨v, hT', by rw [Nat.zero_mul]; exact hr⟩
theorem kids_twice {w : World} {ty : TypeId} {N : Nat} (hN : N = w.heap.size) : Kids (w.alloc (.cells #[.int .u8 1, .int .u8 0, .int .i64 0, .int .i64 0, .string ⟨#[]⟩, .string ⟨#[]⟩, .string ⟨#[]⟩, .int .i64 0, .slice none 0 0, .slice none 0 0, .int .u8 0, .int .i64 0, .slice none 0 0, .slice none 0 0, .int .u8 0, .int .i64 0, .slice none 0 0, .slice none 0 0, .slice none 0 0, .int .u8 1, .int .u8 0, .int .i64 0, .int .i64 0, .string ⟨#[]⟩, .string ⟨#[]⟩, .string ⟨#[]⟩, .int .i64 0, .slice none 0 0, .slice none 0 0, .int .u8 0, .int .i64 0, .slice none 0 0, .slice none 0 0, .int .u8 0, .int .i64 0, .slice none 0 0, .slice none 0 0, .slice none 0 0] ty)) (some ⟨N, 0, none⟩) [exN, exN] := by
  subst hN
  refine kids_laid fun i hi => ?_
  have hg : tget [exN, exN] i = exN := by
    have : i = 0 ∨ i = 1 := by simp at hi; omega
    rcases this with rfl | rfl <;> rfl
  rw [hg]
  refine ⟨exV none 0, ex_is (ts := []) (by decide) (by decide) ⟨Nat.le_refl _, Nat.zero_le _⟩ (.nokids _), ?_⟩
  intro j x hx
  have hj : j < 19 := by
    rcases Nat.lt_or_ge j 19 with h | h
    · exact h
    · rw [List.getElem?_eq_none (by simpa [acells] using h)] at hx; cases hx
  rw [World.cell?_alloc_mark, ← hx]
  have : i = 0 ∨ i = 1 := by simp at hi; omega
  rcases this with rfl | rfl
  all_goals
    have hj' : j = 0 ∨ j = 1 ∨ j = 2 ∨ j = 3 ∨ j = 4 ∨ j = 5 ∨ j = 6 ∨ j = 7 ∨ j = 8 ∨ j = 9 ∨ j = 10 ∨ j = 11 ∨ j = 12 ∨ j = 13 ∨ j = 14 ∨ j = 15 ∨ j = 16 ∨ j = 17 ∨ j = 18 := by omega
    rcases hj' with rfl | rfl | rfl | rfl | rfl | rfl | rfl | rfl | rfl | rfl | rfl | rfl | rfl | rfl | rfl | rfl | rfl | rfl | rfl <;> rfl
end Aterm
end Go.Proofs.YtolpdhkgkjnbfaaDoor
namespace Go.Proofs.YtolpdhkgkjnbfaaDoor
open Go.RowKit
set_option linter.unusedVariables false
set_option linter.unusedSimpArgs false
namespace Aterm
open Effect (RdI nget nget_at nget_mem ret_bool ret_i64 lt_of_block heap_alloc_new ofA)
open Rt (box_new box_at below_then)

set_option maxRecDepth 100000 in
set_option maxHeartbeats 12800000 in
theorem awake_walk (w : World) (hkw : Words.KwLaid w) : Calls Tryd.prog 6 #[] w fun e w' => e = .returned (.bool true) ∧ Below w.heap.size w w' := by
  have HKW := Lib.hid hkw
  clear hkw
  go_enter Tryd.func6, Tryd.ntmps6
  go_upto_region 2 with (refine at_store rfl _ _ rfl _ rfl (exH 1 0) (exV none 0) 0 rfl rfl ?_)
  obtain ⟨W1, hW1⟩ : ∃ W1, W1 = w.alloc (.cells #[.int .u8 (exH 1 0).h.k, .int .u8 (exH 1 0).h.op, .int .i64 (exH 1 0).h.pl, .int .i64 (exH 1 0).h.n, .string (exH 1 0).h.name, .string (exH 1 0).h.arg, .string (exH 1 0).h.exn, .int .i64 (exH 1 0).rho, .slice (exV none 0).ra (exH 1 0).rhos.length (exV none 0).rc, .slice (exV none 0).ea (exH 1 0).e.length (exV none 0).ec, .int .u8 (exH 1 0).ty.h.k, .int .i64 (exH 1 0).ty.h.r, .slice (exV none 0).tea (exH 1 0).ty.h.e.length (exV none 0).tec, .slice (exV none 0).tka (exH 1 0).ty.ks.length (exV none 0).tkc, .int .u8 (exH 1 0).re.h.k, .int .i64 (exH 1 0).re.h.r, .slice (exV none 0).sea (exH 1 0).re.h.e.length (exV none 0).sec, .slice (exV none 0).ska (exH 1 0).re.ks.length (exV none 0).skc, .slice (exV none 0).ka 0 (exV none 0).kc] 33) := ⟨_, rfl⟩
  have hr1 : W1.rangeAt w.heap.size 0 (acells (exH 1 0) (exV none 0) 0) := by rw [hW1]; exact row_new rfl
  have hb1 : Below w.heap.size w W1 := by rw [hW1]; exact box_new _
  rw [← hW1]
  have HR1 := Lib.hid hr1; have HB1 := Lib.hid hb1
  clear hW1 hr1 hb1
  generalize hN1 : w.heap.size = N1 at HR1 ⊢
  have HN1 := Lib.hid hN1
  clear hN1
  go_upto_region 3 with (first | refine at_load rfl _ rfl N1 0 rfl HR1.out ?_ | refine at_store2 rfl _ _ rfl _ rfl (exH 3 1) (exV (some ⟨W1.heap.size, 0, none⟩) 2) 2 _ (by simp) rfl rfl ?_)
  refine of_world (F := fun V => Below W1.heap.size W1 V ∧ AtIs V (exH 3 1) (exV (some ⟨W1.heap.size, 0, none⟩) 2) 2 exP ∧ V.rangeAt (W1.heap.size + 1) 0 (acells (exH 3 1) (exV (some ⟨W1.heap.size, 0, none⟩) 2) 2))
    ⟨(box_new _).trans ((box_new _).mono (by simp)), (ex_is (k := 3) (rho := 1) (p := some ⟨W1.heap.size, 0, none⟩) (c := 2) (ts := [exN, exN]) (by decide) (by decide) ⟨Nat.le_refl _, by unfold maxLen; show 2 ≤ _; omega⟩ (kids_twice rfl)).below (box_new _), row_new (by simp)⟩ ?_
  rintro W2 ⟨hb2, hj2, hr2⟩
  have HR2 := Lib.hid hr2; have HJ2 := Lib.hid hj2; have HB2 := Lib.hid (below_then HB1.out hb2 HB1.out.size)
  clear hr2 hj2 hb2
  generalize hN2 : W1.heap.size + 1 = N2 at HR2 ⊢
  clear hN2
  go_upto_region 4 with (first | refine at_load rfl _ rfl N2 0 rfl HR2.out ?_ | refine at_store2 rfl _ _ rfl _ rfl (exH 4 0) (exV (some ⟨W2.heap.size, 0, none⟩) 1) 1 _ (by simp) rfl rfl ?_)
  refine of_world (F := fun V => Below W2.heap.size W2 V ∧ AtIs V (exH 4 0) (exV (some ⟨W2.heap.size, 0, none⟩) 1) 1 exF ∧ V.rangeAt (W2.heap.size + 1) 0 (acells (exH 4 0) (exV (some ⟨W2.heap.size, 0, none⟩) 1) 1))
    ⟨(box_new _).trans ((box_new _).mono (by simp)), (ex_is (k := 4) (rho := 0) (p := some ⟨W2.heap.size, 0, none⟩) (c := 1) (ts := [exP]) (by decide) (by decide) ⟨Nat.le_refl _, by unfold maxLen; show 1 ≤ _; omega⟩ (kids_new HJ2.out rfl)).below (box_new _), row_new (by simp)⟩ ?_
  rintro W3 ⟨hb3, hj3, hr3⟩
  have HR3 := Lib.hid hr3; have HJ3 := Lib.hid hj3; have HB3 := Lib.hid (below_then HB2.out hb3 HB2.out.size)
  clear hr3 hj3 hb3
  generalize hN3 : W2.heap.size + 1 = N3 at HR3 ⊢
  clear hN3
  go_upto_region 5 with (first | refine at_load rfl _ rfl N3 0 rfl HR3.out ?_ | refine at_store2 rfl _ _ rfl _ rfl (exH 17 1) (exV (some ⟨W3.heap.size, 0, none⟩) 1) 1 _ (by simp) rfl rfl ?_)
  refine of_world (F := fun V => Below W3.heap.size W3 V ∧ AtIs V (exH 17 1) (exV (some ⟨W3.heap.size, 0, none⟩) 1) 1 exT ∧ V.rangeAt (W3.heap.size + 1) 0 (acells (exH 17 1) (exV (some ⟨W3.heap.size, 0, none⟩) 1) 1))
    ⟨(box_new _).trans ((box_new _).mono (by simp)), (ex_is (k := 17) (rho := 1) (p := some ⟨W3.heap.size, 0, none⟩) (c := 1) (ts := [exF]) (by decide) (by decide) ⟨Nat.le_refl _, by unfold maxLen; show 1 ≤ _; omega⟩ (kids_new HJ3.out rfl)).below (box_new _), row_new (by simp)⟩ ?_
  rintro W4 ⟨hb4, hj4, hr4⟩
  have HR4 := Lib.hid hr4; have HJ4 := Lib.hid hj4; have HB4 := Lib.hid (below_then HB3.out hb4 HB3.out.size)
  clear hr4 hj4 hb4
  generalize hN4 : W3.heap.size + 1 = N4 at HR4 ⊢
  clear hN4
  have her : Calls Tryd.prog 17 #[.agg #[.int .u8 (exH 17 1).h.k, .int .u8 (exH 17 1).h.op, .int .i64 (exH 17 1).h.pl, .int .i64 (exH 17 1).h.n, .string (exH 17 1).h.name, .string (exH 17 1).h.arg, .string (exH 17 1).h.exn, .int .i64 (exH 17 1).rho, .slice (exV (some ⟨W3.heap.size, 0, none⟩) 1).ra (exH 17 1).rhos.length (exV (some ⟨W3.heap.size, 0, none⟩) 1).rc, .slice (exV (some ⟨W3.heap.size, 0, none⟩) 1).ea (exH 17 1).e.length (exV (some ⟨W3.heap.size, 0, none⟩) 1).ec, .int .u8 (exH 17 1).ty.h.k, .int .i64 (exH 17 1).ty.h.r, .slice (exV (some ⟨W3.heap.size, 0, none⟩) 1).tea (exH 17 1).ty.h.e.length (exV (some ⟨W3.heap.size, 0, none⟩) 1).tec, .slice (exV (some ⟨W3.heap.size, 0, none⟩) 1).tka (exH 17 1).ty.ks.length (exV (some ⟨W3.heap.size, 0, none⟩) 1).tkc, .int .u8 (exH 17 1).re.h.k, .int .i64 (exH 17 1).re.h.r, .slice (exV (some ⟨W3.heap.size, 0, none⟩) 1).sea (exH 17 1).re.h.e.length (exV (some ⟨W3.heap.size, 0, none⟩) 1).sec, .slice (exV (some ⟨W3.heap.size, 0, none⟩) 1).ska (exH 17 1).re.ks.length (exV (some ⟨W3.heap.size, 0, none⟩) 1).skc, .slice (exV (some ⟨W3.heap.size, 0, none⟩) 1).ka 1 (exV (some ⟨W3.heap.size, 0, none⟩) 1).kc]] W4 fun e w' => ∃ b o c, e = .returned (.agg #[.int .u8 4, .int .u8 0, .int .i64 0, .int .i64 0, .string ⟨#[]⟩, .string ⟨#[]⟩, .string ⟨#[]⟩, .slice (some ⟨b, o, none⟩) 1 c]) ∧ w'.cell? ⟨b, o, none⟩ = some (.int .u8 3) ∧ Below W4.heap.size W4 w' := by
    refine (erase_walk (wt exT) exT _ _ _ W4 (Nat.le_refl _) (by rw [wt_T]; omega) HJ4.out).mono ?_
    rintro e w' ⟨q, c, he, hT, hb⟩
    rw [erase_ex] at he hT
    obtain ⟨b, o, q', c', hq, -, hc, -⟩ := hT.kids.get 0 (by decide)
    subst hq
    exact ⟨b, o, c, he, by have := Term.veil_reads _ _ _ _ hc; rw [Nat.zero_mul, Nat.add_zero] at this; exact this, hb⟩
  have hmay := fun (W : World) (hb : Below W4.heap.size W4 W) => may_walk exT _ _ _ W (HJ4.out.below hb) (by rw [wt_T]; omega) small_ex (HKW.out.below (below_then HB4.out hb HB4.out.size))
  have h5 : wts [exT] = 5 := by rw [wts_cons, wts_nil, wt_T]
  have hsize := fun (W : World) (N : Nat) (hN : W.rangeAt N 0 (acells (exH 17 1) (exV (some ⟨W3.heap.size, 0, none⟩) 1) 1)) (hb : Below W4.heap.size W4 W) => size_walk [exT] (some ⟨N, 0, none⟩) 1 1 W4 W rfl Rt.one_le (fun W' hW' => row_one HJ4.out (range_below hN hW')) hb (by rw [h5]; omega) (by rw [allK_of1]; exact small_ex)
  rw [h5] at hsize
  rw [may_ex] at hmay
  have HER := Lib.hid her; have HMAY := Lib.hid hmay; have HSIZE := Lib.hid hsize
  clear her hmay hsize h5
  go_wp2_with (refine at_load rfl _ rfl N4 0 rfl HR4.out ?_)
  refine HER.out.mono ?_
  rintro e w5 ⟨b, o, c, rfl, hc, hb5⟩
  have hcE := heap_alloc_new w5 (.cells #[.int .u8 4, .int .u8 0, .int .i64 0, .int .i64 0, .string ⟨#[]⟩, .string ⟨#[]⟩, .string ⟨#[]⟩, .slice (some ⟨b, o, none⟩) 1 c] 44)
  have hb6 := box_new (w := w5) (.cells #[.int .u8 4, .int .u8 0, .int .i64 0, .int .i64 0, .string ⟨#[]⟩, .string ⟨#[]⟩, .string ⟨#[]⟩, .slice (some ⟨b, o, none⟩) 1 c] 44)
  go_upto_region 6 with (fail)
  generalize hW6 : w5.alloc (.cells #[.int .u8 4, .int .u8 0, .int .i64 0, .int .i64 0, .string ⟨#[]⟩, .string ⟨#[]⟩, .string ⟨#[]⟩, .slice (some ⟨b, o, none⟩) 1 c] 44) = W6 at hcE hb6 ⊢
  clear hW6
  generalize hN5 : w5.heap.size = N5 at hcE hb6 ⊢
  have HCE := Lib.hid hcE
  have HC := Lib.hid ((hb6.cell (p := ⟨b, o, none⟩) (by rw [← hN5]; exact World.block_lt_of_cell? w5 _ hc)).trans hc)
  have HB6 := Lib.hid (below_then hb5 (by rw [hN5]; exact hb6) hb5.size)
  have HR6 := Lib.hid (range_below HR4.out HB6.out)
  clear hcE hb6 hc hb5 hN5
  go_wp2_with (refine at_load rfl _ rfl N4 0 rfl HR6.out ?_)
  refine (HMAY.out W6 HB6.out).mono ?_
  rintro e w7 ⟨rfl, hb7⟩
  have HB7 := Lib.hid (below_then HB6.out hb7 HB6.out.size)
  have HCE7 := Lib.hid ((hb7.block _ (lt_of_block HCE.out)).trans HCE.out)
  have HC7 := Lib.hid ((hb7.cell (p := ⟨b, o, none⟩) (World.block_lt_of_cell? W6 _ HC.out)).trans HC.out)
  have HR7 := Lib.hid (range_below HR4.out HB7.out)
  clear hb7
  go_wp2_with (refine at_load_g (by rfl) _ rfl N4 0 rfl HR7.out ?_)
  refine (HSIZE.out _ w7.heap.size (row_new rfl) (below_then HB7.out (box_new _) HB7.out.size)).mono ?_
  rintro e w8 ⟨rfl, hb8⟩
  have hb9 := (box_new (w := w7) (.cells #[.int .u8 (exH 17 1).h.k, .int .u8 (exH 17 1).h.op, .int .i64 (exH 17 1).h.pl, .int .i64 (exH 17 1).h.n, .string (exH 17 1).h.name, .string (exH 17 1).h.arg, .string (exH 17 1).h.exn, .int .i64 (exH 17 1).rho, .slice (exV (some ⟨W3.heap.size, 0, none⟩) 1).ra (exH 17 1).rhos.length (exV (some ⟨W3.heap.size, 0, none⟩) 1).rc, .slice (exV (some ⟨W3.heap.size, 0, none⟩) 1).ea (exH 17 1).e.length (exV (some ⟨W3.heap.size, 0, none⟩) 1).ec, .int .u8 (exH 17 1).ty.h.k, .int .i64 (exH 17 1).ty.h.r, .slice (exV (some ⟨W3.heap.size, 0, none⟩) 1).tea (exH 17 1).ty.h.e.length (exV (some ⟨W3.heap.size, 0, none⟩) 1).tec, .slice (exV (some ⟨W3.heap.size, 0, none⟩) 1).tka (exH 17 1).ty.ks.length (exV (some ⟨W3.heap.size, 0, none⟩) 1).tkc, .int .u8 (exH 17 1).re.h.k, .int .i64 (exH 17 1).re.h.r, .slice (exV (some ⟨W3.heap.size, 0, none⟩) 1).sea (exH 17 1).re.h.e.length (exV (some ⟨W3.heap.size, 0, none⟩) 1).sec, .slice (exV (some ⟨W3.heap.size, 0, none⟩) 1).ska (exH 17 1).re.ks.length (exV (some ⟨W3.heap.size, 0, none⟩) 1).skc, .slice (exV (some ⟨W3.heap.size, 0, none⟩) 1).ka 1 (exV (some ⟨W3.heap.size, 0, none⟩) 1).kc] 33)).trans (hb8.mono (by simp))
  have hce8 := (hb9.block _ (lt_of_block HCE7.out)).trans HCE7.out
  have c0 : w8.cell? ⟨N5, 0, none⟩ = some (.int .u8 4) := by simp [World.cell?, hce8]
  have c7 : w8.cell? ⟨N5, 7, none⟩ = some (.slice (some ⟨b, o, none⟩) 1 c) := by simp [World.cell?, hce8]
  have cb : w8.cell? ⟨b, o, none⟩ = some (.int .u8 3) := (hb9.cell (p := ⟨b, o, none⟩) (World.block_lt_of_cell? w7 _ HC7.out)).trans HC7.out
  have HB8 := Lib.hid (below_then HB4.out (HB7.out.trans (hb9.mono HB7.out.size)) HB4.out.size)
  clear hb8 hb9 hce8
  go_wp2_with (fail)
  go_ret
  exact ⟨rfl, HB8.out⟩
end Aterm
end Go.Proofs.YtolpdhkgkjnbfaaDoor
namespace Go.Proofs.YtolpdhkgkjnbfaaDoor
open Go.RowKit
set_option linter.unusedVariables false
set_option linter.unusedSimpArgs false
namespace Aterm
open Effect (RdI nget nget_at nget_mem Ixs intsV own_slice refInts_walk)
open Rt (box_new box_at below_then)

theorem metO_drop (M l : List Int) (j : Nat) (h : j < l.length) : metO M (l.drop j) = (M.contains (nget l j) || metO (M ++ [nget l j]) (l.drop (j + 1))) := by
  have e : l.drop j = nget l j :: l.drop (j + 1) := by
    rw [List.drop_eq_getElem_cons h]
    have := nget_at h
    rw [List.getElem?_eq_getElem h] at this
    rw [Option.some.inj this]
  rw [e, metO]
theorem metO_end (M l : List Int) (j : Nat) (h : l.length ≤ j) : metO M (l.drop j) = false := by
  rw [List.drop_eq_nil_of_le h, metO]
theorem itake (l : List Int) (j : Nat) (h : j < l.length) : l.take (j + 1) = l.take j ++ [nget l j] := by
  rw [List.take_add_one, nget_at h]; rfl
theorem apart_drop (F : List AT) (M : List Int) (j : Nat) (h : j < F.length) : apartL (F.drop j) M = if metO M (ownH (tget F j).h) = true then some (tget F j).h.h.pl else apartL (F.drop (j + 1)) (M ++ ownH (tget F j).h) := by
  rw [drop_tget F j h, apartL]
/-- A row of one's own is read. -/
theorem rd_ixs {B m c : Nat} {W : World} {a : Option Addr} {l : List Int} (h : Ixs B W (.slice a m c) m l) (hok : ∀ x ∈ l, -9223372036854775808 ≤ x ∧ x ≤ 9223372036854775807) : RdI W m a l := by
  have hl : l.length = m := by have := h.1; unfold intsV at this; rw [List.length_map] at this; omega
  refine ⟨hl, ?_, hok⟩
  rcases h.2 with ⟨e, h0⟩ | ⟨g, cap, cur, e, _⟩
  · exact .inl (List.eq_nil_of_length_eq_zero (by omega))
  · injection e with e1 e2 e3
    subst e1
    refine .inr ⟨g, 0, rfl, fun i hi => ?_⟩
    have h2 : (intsV l)[i]? = some (.int .i64 (nget l i)) := by unfold intsV; rw [List.getElem?_map, nget_at hi]; rfl
    have := h.cells (g := g) (by rfl) i _ h2
    rw [Addr.add_lit, Nat.zero_add] at this
    rw [Nat.zero_add]
    exact this
/-- A row that is read stays, if another one grows. -/
theorem rd_grown {W W' : World} {n : Nat} {p : Option Addr} {l : List Int} {row : Option Nat} (h : RdI W n p l) (hg : W.grownBy W' row) (hne : l ≠ [] → ∀ b o, p = some ⟨b, o, none⟩ → b < W.heap.size ∧ some b ≠ row) : RdI W' n p l := by
  refine ⟨h.len, ?_, h.ok⟩
  by_cases h0 : l = []
  · exact .inl h0
  refine .inr ?_
  obtain ⟨b, o, hp, hc⟩ := h.at_.resolve_left h0
  obtain ⟨h1, h2⟩ := hne h0 b o hp
  exact ⟨b, o, hp, fun i hi => (World.cell?_of_block (a := ⟨b, o + i, none⟩) (hg.block b h1 h2)).trans (hc i hi)⟩

set_option maxRecDepth 100000 in
set_option maxHeartbeats 6400000 in
theorem refApart_walk (t : AT) (h : Hd) (v : V) (l : Nat) (w : World) (hT : AtIs w h v l t) (hw : wt t ≤ 1000000) (hbn : (bindT t).length ≤ 100000) :
    Calls Tryd.prog 11 #[.agg #[.int .u8 h.h.k, .int .u8 h.h.op, .int .i64 h.h.pl, .int .i64 h.h.n, .string h.h.name, .string h.h.arg, .string h.h.exn, .int .i64 h.rho, .slice v.ra h.rhos.length v.rc, .slice v.ea h.e.length v.ec, .int .u8 h.ty.h.k, .int .i64 h.ty.h.r, .slice v.tea h.ty.h.e.length v.tec, .slice v.tka h.ty.ks.length v.tkc, .int .u8 h.re.h.k, .int .i64 h.re.h.r, .slice v.sea h.re.h.e.length v.sec, .slice v.ska h.re.ks.length v.skc, .slice v.ka l v.kc]] w fun e w' => e = .returned (.tuple #[.int .i64 (apartAt (apartT t)), .bool (apartT t).isNone]) ∧ Below w.heap.size w w' := by
  rw [bindT_flat] at hbn
  have hap : apartT t = apartL (flatT t) [] := rfl
  have hfl := flatT_len t
  have HT := Lib.hid hT; have HWT := Lib.hid hw; have HAP := Lib.hid hap
  clear hT hw hap
  go_enter Tryd.func11, Tryd.ntmps11
  go_upto_region 1 with (fail)
  obtain ⟨W0, hW0⟩ : ∃ W0, W0 = w.alloc (.cells #[.int .u8 h.h.k, .int .u8 h.h.op, .int .i64 h.h.pl, .int .i64 h.h.n, .string h.h.name, .string h.h.arg, .string h.h.exn, .int .i64 h.rho, .slice v.ra h.rhos.length v.rc, .slice v.ea h.e.length v.ec, .int .u8 h.ty.h.k, .int .i64 h.ty.h.r, .slice v.tea h.ty.h.e.length v.tec, .slice v.tka h.ty.ks.length v.tkc, .int .u8 h.re.h.k, .int .i64 h.re.h.r, .slice v.sea h.re.h.e.length v.sec, .slice v.ska h.re.ks.length v.skc, .slice v.ka l v.kc] 33) := ⟨_, rfl⟩
  have hbx : Box W0 w.heap.size h v l := by rw [hW0]; exact box_of (w := w) (h := h) (v := v) (l := l)
  have hb0 : Below w.heap.size w W0 := by rw [hW0]; exact box_new _
  rw [← hW0]
  clear hW0
  generalize hN0 : w.heap.size = N0 at hbx ⊢
  have HB0 := Lib.hid hb0; have HBX := Lib.hid hbx; have HRG := Lib.hid hbx.range
  obtain ⟨b0, b1, b2, b3, b4, b5, b6, b7, b8, b9, b10, b11, b12, b13, b14, b15, b16, b17, b18⟩ := hbx
  clear hb0 hN0 b0 b1 b2 b3 b4 b5 b6 b7 b8 b9 b10 b11 b12 b13 b14 b15 b16 b17 b18
  go_upto_region 2 with (fail)
  have hrow : Ixs W0.heap.size (W0.alloc (.cells #[] 3)) (.slice (some ⟨W0.heap.size, 0, none⟩) 0 0) 0 [] := World.ownsRow_lit (base := W0.heap.size) (e := 3) (size := 1) W0 #[] 0 (Nat.le_refl _) (by unfold maxLen; omega) rfl
  obtain ⟨W1, hW1⟩ : ∃ W1, W1 = W0.alloc (.cells #[] 3) := ⟨_, rfl⟩
  have hb1 : Below W0.heap.size W0 W1 := by rw [hW1]; exact box_new _
  rw [← hW1] at hrow ⊢
  clear hW1
  have hr1 := range_below HRG.out hb1
  have HB1 := Lib.hid hb1; have HROW := Lib.hid hrow; have HR1 := Lib.hid hr1
  clear hb1 hrow hr1
  generalize hE0 : W0.heap.size = E0 at *
  go_wp2_with (refine at_load rfl _ rfl N0 0 rfl HR1.out ?_)
  have hbw : Below w.heap.size w W1 := below_then HB0.out (by rw [hE0]; exact HB1.out) HB0.out.size
  refine (refAll_walk (wt t) t h v l w W1 (Nat.le_refl _) HWT.out HT.out hbw).mono ?_
  rintro e w2 ⟨g, c2, xs, rfl, hown2, hfl2, hb2⟩
  have hall : AllAt w w2 g c2 (flatT t) := ⟨_, xs, by rw [hfl]; exact hown2, hfl2⟩
  have hi2 : Ixs E0 w2 (.slice (some ⟨E0, 0, none⟩) 0 0) 0 [] := own_below HROW.out hb2
  have hB2 : Below E0 W0 w2 := HB1.out.trans (hb2.mono (by have h1 := HB1.out.size; omega))
  have HALL := Lib.hid hall; have HI2 := Lib.hid hi2; have HB2 := Lib.hid hB2; have HBN := Lib.hid hbn; have HE0 := Lib.hid hE0
  clear hown2 hfl2 hb2 hbw hall hi2 hB2 hbn hE0
  generalize hF : flatT t = F at *
  clear hF
  obtain ⟨n, hn⟩ : ∃ n, n = wt t := ⟨_, rfl⟩
  have hnw := HWT.out
  rw [← hn] at hfl hnw ⊢
  have HFL := Lib.hid hfl
  clear hfl hn
  go_wp2_with (fail)
  go_loopw [4, 6, 7, 8, 14, 24] (fun s4 _ _ _ i _ wr => ∃ (j m c : Nat) (a : Option Addr), j ≤ n ∧ i = .int .i64 j ∧ s4 = .slice a m c ∧ Hid (m = (ownL (F.take j)).length) ∧ Hid (Ixs E0 wr (.slice a m c) m (ownL (F.take j))) ∧ Hid (∀ x ∈ ownL (F.take j), -9223372036854775808 ≤ x ∧ x ≤ 9223372036854775807) ∧ Hid (AllAt w wr g c2 F) ∧ Hid (Below E0 W0 wr) ∧ Hid (apartT t = apartL (F.drop j) (ownL (F.take j)))) (fun _ _ _ _ i _ _ => n - (intOf i).toNat)
  case atStart => exact ⟨0, 0, 0, _, Nat.zero_le _, rfl, rfl, Lib.hid rfl, HI2, Lib.hid (fun x hx => by cases hx), HALL, HB2, Lib.hid (by rw [List.drop_zero]; exact HAP.out)⟩
  case round =>
    obtain ⟨j, m, c, a, hj, rfl, rfl, HM, HI, HOK, HA, HB, HP⟩ := hrel
    by_cases hlt : j < n
    · have hjf : j < F.length := by rw [HFL.out]; exact hlt
      obtain ⟨v', hat, hrg⟩ := HA.out.get j hjf
      have hwr : Below w.heap.size w wr := below_then HB0.out (by rw [HE0.out]; exact HB.out) HB0.out.size
      have htk := ownL_take F j hjf
      have hle := ownL_take_le F (j + 1)
      have hst := apart_drop F (ownL (F.take j)) j hjf
      rw [← HP.out] at hst
      have HAT := Lib.hid hat; have HRJ := Lib.hid hrg; have HTK := Lib.hid htk; have HLE := Lib.hid hle; have HWR := Lib.hid hwr; have HST := Lib.hid hst
      clear hat hrg htk hle hjf hwr hst
      go_wp2_with (refine at_load rfl _ rfl g (j * 19) rfl HRJ.out ?_)
      refine (own2_walk (tget F j) _ v' _ w _ HAT.out HWR.out).mono ?_
      rintro e w3 ⟨p, n3, c3, rfl, hn3, hrd, hb3, hpl⟩
      have hok3 := hrd.ok
      have hpb : ownH (tget F j).h ≠ [] → ∀ b o, p = some ⟨b, o, none⟩ → b < w3.heap.size ∧ some b ≠ (Value.slice a m c).ownBlock := by
        intro hne b o hp
        have hz := hb3.size
        rcases hpl with hp0 | hp1
        · obtain ⟨b', o', hp', hc⟩ := hp0.at_.resolve_left hne
          rw [hp] at hp'
          injection hp' with hp'
          injection hp' with hp' _
          subst hp'
          have hpos : 0 < (ownH (tget F j).h).length := List.length_pos_iff.2 hne
          have hlt := World.block_lt_of_cell? w _ (hc 0 hpos)
          have h1 := HWR.out.size; have h2 := HB0.out.size; have h3 := HE0.out
          have hlt' : b < w.heap.size := hlt
          refine ⟨by omega, fun e => ?_⟩
          have := (HI.out.lt b e.symm).1
          omega
        · have h1 := hp1 b o hp
          refine ⟨h1.2, fun e => ?_⟩
          have := (HI.out.lt b e.symm).2
          omega
      have hi3 : Ixs E0 w3 (.slice a m c) m (ownL (F.take j) ++ (ownH (tget F j).h).take 0) := by rw [List.take_zero, List.append_nil]; exact own_below HI.out hb3
      have ha3 := HA.out.below hb3
      have hB3 : Below E0 W0 w3 := HB.out.trans (hb3.mono (by have h1 := HB.out.size; have h3 := HE0.out; omega))
      have hO : ∀ x ∈ ownL (F.take (j + 1)), -9223372036854775808 ≤ x ∧ x ≤ 9223372036854775807 := by
        rw [HTK.out]
        intro x hx
        rcases List.mem_append.1 hx with hx | hx
        · exact HOK.out x hx
        · exact hok3 x hx
      have hbd : m + n3 ≤ 100000 := by
        have h1 := HLE.out; have h2 := HTK.out; have h3 := HBN.out; have h4 := HM.out
        rw [h2, List.length_append] at h1
        omega
      generalize hOd : ownH (tget F j).h = O at *
      generalize hMd : ownL (F.take j) = M at *
      have hol : O.length = n3 := hn3.symm
      have HI3 := Lib.hid hi3; have HA3 := Lib.hid ha3; have HB3 := Lib.hid hB3; have HO := Lib.hid hO; have HRD := Lib.hid hrd; have HPB := Lib.hid hpb; have HOL := Lib.hid hol; have HOD := Lib.hid hOd
      have HM3 := Lib.hid (show m = (M ++ O.take 0).length by rw [List.take_zero, List.append_nil]; exact HM.out)
      clear hi3 ha3 hB3 hO hrd hpb hol hn3 hpl hb3 hok3 HI HA HB HRJ HWR hOd hMd
      go_wp2_with (fail)
      go_loopw [4, 8, 24] (fun s4 _ i wr => ∃ (k m c : Nat) (a : Option Addr), k ≤ n3 ∧ i = .int .i64 k ∧ s4 = .slice a m c ∧ Hid (m = (M ++ O.take k).length) ∧ Hid (Ixs E0 wr (.slice a m c) m (M ++ O.take k)) ∧ Hid (AllAt w wr g c2 F) ∧ Hid (Below E0 W0 wr) ∧ Hid (RdI wr n3 p O) ∧ Hid (O ≠ [] → ∀ b o, p = some ⟨b, o, none⟩ → b < wr.heap.size ∧ some b ≠ (Value.slice a m c).ownBlock) ∧ Hid (metO M O = metO (M ++ O.take k) (O.drop k))) (fun _ _ i _ => n3 - (intOf i).toNat)
      case atStart => exact ⟨0, m, c, a, Nat.zero_le _, rfl, rfl, HM3, HI3, HA3, HB3, HRD, HPB, Lib.hid (by rw [List.take_zero, List.append_nil, List.drop_zero])⟩
      case round =>
        clear HI3 HA3 HB3 HRD HPB HM3
        obtain ⟨k, m1, c1, a1, hk, rfl, rfl, HM1, HI1, HA1, HB1', HRD1, HPB1, HME⟩ := hrel
        by_cases hkl : k < n3
        · have hkO : k < O.length := by rw [HOL.out]; exact hkl
          obtain ⟨b1, o1, hp1, e0⟩ := HRD1.out.get k hkO
          have hst := metO_drop (M ++ O.take k) O k hkO
          have hit := itake O k hkO
          have hxb := HRD1.out.ok _ (nget_mem hkO)
          have hmb : m1 ≤ 100000 := by
            have h1 := HM1.out
            rw [List.length_append, List.length_take] at h1
            have h2 := HM.out; have h3 := HOL.out
            omega
          have hm1 : m1 + 1 = (M ++ O.take (k + 1)).length := by rw [hit, ← List.append_assoc, List.length_append, ← HM1.out]; rfl
          have hok1 : ∀ x ∈ M ++ O.take k, -9223372036854775808 ≤ x ∧ x ≤ 9223372036854775807 := by
            intro x hx
            refine HO.out x ?_
            rw [HTK.out]
            rcases List.mem_append.1 hx with hx | hx
            · exact List.mem_append_left _ hx
            · exact List.mem_append_right _ (List.mem_of_mem_take hx)
          have hint := refInts_walk (c := c1) (rd_ixs HI1.out hok1) hmb (nget O k)
          generalize nget O k = x at *
          subst hp1
          obtain ⟨v2, -, hrg⟩ := HA1.out.get j (by rw [HFL.out]; exact hlt)
          have epl := hrg 2 _ rfl
          have HINT := Lib.hid hint; have HS := Lib.hid hst; have HIT := Lib.hid hit; have HXB := Lib.hid hxb; have HM1' := Lib.hid hm1
          clear hint hst hit hxb hm1 hok1 hkO hrg
          go_wp2_with (fail)
          refine HINT.out.mono ?_
          rintro e w4 ⟨rfl, hw4⟩
          have hw4' := hw4.symm
          clear hw4
          subst hw4'
          cases hcx : (M ++ O.take k).contains x
          · have hsx := HS.out
            rw [hcx, Bool.false_or, ← HME.out] at hsx
            have HS' := Lib.hid hsx
            clear hsx hcx
            have hb5 : ∀ ty, Below wr.heap.size wr (wr.alloc (.cells #[.int .i64 x] ty)) := fun ty => box_new _
            have hz := HB1'.out.size
            have hz0 := HE0.out
            have happ := append_rd (c := 1) (own_below HI1.out (hb5 3)) (rd_one rfl HXB.out) (show m1 + 1 ≤ 1000000000 by omega) (show E0 ≤ (wr.alloc (.cells #[.int .i64 x] 3)).heap.size by simp; omega)
            obtain ⟨a', c', w6, hrun, hi6, hg6, hob⟩ := happ
            have ha6 := (HA1.out.below (hb5 3)).grown (own_below HI1.out (hb5 3)) hg6
            have hb6 : Below E0 W0 w6 := (HB1'.out.trans ((hb5 3).mono (by omega))).grown hg6 (by simp; omega) (fun q hq => (HI1.out.lt q hq).1)
            have hpb5 : O ≠ [] → ∀ b o, some (⟨b1, o1, none⟩ : Addr) = some ⟨b, o, none⟩ → b < (wr.alloc (.cells #[.int .i64 x] 3)).heap.size ∧ some b ≠ (Value.slice a1 m1 c1).ownBlock := fun h0 b o hp => by
              have := HPB1.out h0 b o hp
              exact ⟨by simp; omega, this.2⟩
            have hrd6 := rd_grown (HRD1.out.below (hb5 3)) hg6 hpb5
            have hpb6 : O ≠ [] → ∀ b o, some (⟨b1, o1, none⟩ : Addr) = some ⟨b, o, none⟩ → b < w6.heap.size ∧ some b ≠ (Value.slice a' (m1 + 1) c').ownBlock := fun h0 b o hp => by
              have h1 := hpb5 h0 b o hp
              have h2 := hg6.size
              refine ⟨by omega, ?_⟩
              rcases hob with e | e
              · rw [e]; exact h1.2
              · rw [e]; intro e2; injection e2 with e2; omega
            have hi6' : Ixs E0 w6 (.slice a' (m1 + 1) c') (m1 + 1) (M ++ O.take (k + 1)) := by
              rw [HIT.out, ← List.append_assoc]; exact hi6
            have hme : metO M O = metO (M ++ O.take (k + 1)) (O.drop (k + 1)) := by rw [HIT.out, ← List.append_assoc]; exact HS'.out
            have HRUN := Lib.hid hrun; have HI6 := Lib.hid hi6'; have HA6 := Lib.hid ha6; have HB6 := Lib.hid hb6; have HRD6 := Lib.hid hrd6; have HPB6 := Lib.hid hpb6; have HME6 := Lib.hid hme
            clear hrun hi6 hg6 hob ha6 hb6 hpb5 hrd6 hpb6 hi6' hme hb5 hz hz0
            go_wp2_with (at_builtin; refine append_made rfl (.tmp 39) (.tmp 44) 24 24 rfl (.slice a1 m1 c1) (.slice (some ⟨_, 0, none⟩) 1 1) _ rfl rfl HRUN.out ?_)
            go_roundw
            case rel => exact ⟨k + 1, m1 + 1, c', a', by omega, by go_num, rfl, HM1', HI6, HA6, HB6, HRD6, HPB6, HME6⟩
            case measure => simp [intOf]; omega
          · have hres : apartT t = some (tget F j).h.h.pl := by rw [HST.out, HME.out, HS.out, hcx]; rfl
            have HRES := Lib.hid hres
            clear hres hcx
            go_wp2_with (fail)
            go_ret2
            rw [HRES.out]
            have h1 := HB0.out.size; have h2 := HE0.out
            exact ⟨rfl, HB0.out.trans (HB1'.out.mono (by omega))⟩
        · obtain rfl : k = n3 := by omega
          have htake : O.take k = O := List.take_of_length_le (by rw [HOL.out]; exact Nat.le_refl _)
          have hmm := HM1.out; have hii := HI1.out; have hme := HME.out
          rw [metO_end _ _ _ (by rw [HOL.out]; exact Nat.le_refl _)] at hme
          rw [htake, ← HTK.out] at hmm hii
          have hp := HST.out
          rw [hme, if_neg (by simp), ← HTK.out] at hp
          have HM2 := Lib.hid hmm; have HI2' := Lib.hid hii; have HP2 := Lib.hid hp
          clear htake hmm hii hme hp
          go_wp2_with (fail)
          go_roundw
          case rel => exact ⟨j + 1, m1, c1, a1, by omega, by go_num, rfl, HM2, HI2', HO, HA1, HB1', HP2⟩
          case measure => simp [intOf]; omega
    · obtain rfl : j = n := by omega
      have hp := HP.out
      rw [List.drop_eq_nil_of_le (by rw [HFL.out]; exact Nat.le_refl _), apartL] at hp
      have HP5 := Lib.hid hp
      clear hp
      go_wp2_with (fail)
      go_ret2
      have h1 := HB0.out.size; have h2 := HE0.out
      rw [HP5.out]
      exact ⟨rfl, HB0.out.trans (HB.out.mono (by omega))⟩
end Aterm
end Go.Proofs.YtolpdhkgkjnbfaaDoor
namespace Go.Proofs.YtolpdhkgkjnbfaaDoor
open Go.RowKit
set_option linter.unusedVariables false
set_option linter.unusedSimpArgs false
namespace Aterm
open Effect (RdI nget nget_at nget_mem ret_bool ret_i64 lt_of_block heap_alloc_new ofA Ixs intsV own_slice)
open Rt (box_new box_at below_then)

theorem own_50 {h : Hd} {n : Nat} (hf : smallB h n = true) : (ownH h).length ≤ 50 ∧ fewB h n = true := by
  unfold smallB at hf
  have hl : longB h = false := by simpa using hf
  have := (long_no hl).1
  refine ⟨?_, decide_eq_true this.2.2.2⟩
  unfold ownH
  split
  · simp
  · split
    · omega
    · simp
theorem bind_few : ∀ m : Nat, (∀ t : AT, wt t ≤ m → allT smallB t = true → (bindT t).length ≤ 50 * wt t ∧ allT fewB t = true) ∧ (∀ ts : List AT, wts ts ≤ m → allK smallB ts = true → (bindK ts).length ≤ 50 * wts ts ∧ allK fewB ts = true) := by
  intro m
  induction m with
  | zero =>
    refine ⟨fun t h => by have := wt_pos t; omega, fun ts h => ?_⟩
    cases ts with
    | nil => intro _; rw [bindK_nil]; exact ⟨Nat.zero_le _, by rw [allK_nil]⟩
    | cons t ts => rw [wts_cons] at h; have := wt_pos t; omega
  | succ m ih =>
    have hT : ∀ t : AT, wt t ≤ m + 1 → allT smallB t = true → (bindT t).length ≤ 50 * wt t ∧ allT fewB t = true := by
      intro t hm hs
      rw [allT_eq, Bool.and_eq_true] at hs
      have hk := wt_ks t
      obtain ⟨h1, h2⟩ := ih.2 t.ks (by omega) hs.2
      obtain ⟨h3, h4⟩ := own_50 hs.1
      refine ⟨?_, by rw [allT_eq, h4, h2]; rfl⟩
      rw [bindT_eq, List.length_append]
      omega
    refine ⟨hT, fun ts => ?_⟩
    induction ts with
    | nil => intro _ _; rw [bindK_nil]; exact ⟨Nat.zero_le _, by rw [allK_nil]⟩
    | cons t ts iht =>
      intro hm hs
      rw [wts_cons] at hm
      rw [allK_cons, Bool.and_eq_true] at hs
      obtain ⟨h1, h2⟩ := hT t (by omega) hs.1
      obtain ⟨h3, h4⟩ := iht (by omega) hs.2
      refine ⟨?_, by rw [allK_cons, h2, h4]; rfl⟩
      rw [bindK_cons, List.length_append, wts_cons]
      omega
theorem mem_bindK : ∀ {ts : List AT} {x : Int}, x ∈ bindK ts → ∃ j, j < ts.length ∧ x ∈ bindT (tget ts j)
  | [], x, h => by rw [bindK_nil] at h; cases h
  | t :: ts, x, h => by
    rw [bindK_cons] at h
    rcases List.mem_append.1 h with h | h
    · exact ⟨0, by simp, h⟩
    · obtain ⟨j, h1, h2⟩ := mem_bindK h
      exact ⟨j + 1, by simpa using h1, h2⟩
theorem bind_ok : ∀ (m : Nat) (t : AT) (h : Hd) (v : V) (l : Nat) (w : World), wt t ≤ m → AtIs w h v l t → ∀ x ∈ bindT t, -9223372036854775808 ≤ x ∧ x ≤ 9223372036854775807 := by
  intro m
  induction m with
  | zero => intro t h v l w hm; have := wt_pos t; omega
  | succ m ih =>
    intro t h v l w hm hT x hx
    rw [bindT_eq, hT.head] at hx
    rcases List.mem_append.1 hx with hx | hx
    · unfold ownH at hx
      split at hx
      · have : x = h.rho := by simpa using hx
        rw [this]; exact hT.ok.rho
      · split at hx
        · exact hT.ok.rhos.ok x hx
        · cases hx
    · obtain ⟨j, hj, hxj⟩ := mem_bindK hx
      obtain ⟨b, o, v2, -, hk, -⟩ := hT.kids.load j hj
      have := wt_ks t
      have := wts_get hj
      exact ih (tget t.ks j) _ v2 _ w (by omega) hk x hxj
theorem binds_ok {w : World} {p : Option Addr} {ts : List AT} (hk : Kids w p ts) : ∀ x ∈ bindK ts, -9223372036854775808 ≤ x ∧ x ≤ 9223372036854775807 := by
  intro x hx
  obtain ⟨j, hj, hxj⟩ := mem_bindK hx
  obtain ⟨b, o, v2, -, hk, -⟩ := hk.load j hj
  exact bind_ok _ _ _ v2 _ w (Nat.le_refl _) hk x hxj
theorem bindK_app : ∀ ts us : List AT, bindK (ts ++ us) = bindK ts ++ bindK us
  | [], us => by rw [bindK_nil]; rfl
  | t :: ts, us => by rw [List.cons_append, bindK_cons, bindK_cons, bindK_app ts us, List.append_assoc]
theorem bindK_take' (ts : List AT) (k : Nat) (h : k < ts.length) : bindK (ts.take (k + 1)) = bindK (ts.take k) ++ bindT (tget ts k) := by
  rw [take_tget ts k h, bindK_app, bindK_cons, bindK_nil, List.append_nil]
theorem wts_take (ts : List AT) (j : Nat) (hj : j < ts.length) : wts (ts.take (j + 1)) = wts (ts.take j) + wt (tget ts j) := by
  rw [take_tget ts j hj, wts_append, wts_cons, wts_nil]; rfl
theorem allK_take {B : Hd → Nat → Bool} (ts : List AT) (j : Nat) (hj : j < ts.length) (h : allK B (ts.take j) = true) (ht : allT B (tget ts j) = true) : allK B (ts.take (j + 1)) = true := by
  have : ∀ us vs : List AT, allK B us = true → allK B vs = true → allK B (us ++ vs) = true := by
    intro us
    induction us with
    | nil => intro vs _ h; exact h
    | cons u us ih =>
      intro vs h1 h2
      rw [allK_cons, Bool.and_eq_true] at h1
      rw [List.cons_append, allK_cons, h1.1, ih vs h1.2 h2]; rfl
  rw [take_tget ts j hj]
  exact this _ _ h (by rw [allK_cons, ht, allK_nil]; rfl)
set_option maxRecDepth 100000 in
set_option maxHeartbeats 12800000 in
theorem bindsLaw_walk (p : Option Addr) (l d : Nat) (ts : List AT) (w : World) (hT : IsAts w p l d ts) (hkw : Words.KwLaid w) :
    Calls Tryd.prog 3 #[.slice p l d] w fun e w' => e = .returned (.bool true) ∧ Below w.heap.size w w' := by
  obtain ⟨hlen, hld, hdm, hkids⟩ := hT
  have haw := fun (W : World) (hb : Below w.heap.size w W) => awake_walk W (hkw.below hb)
  have HAW := Lib.hid haw; have HK := Lib.hid hkids; have HLEN := Lib.hid hlen; have HLM := Lib.hid (Nat.le_trans hld hdm)
  clear haw hkids hlen hkw hdm hld
  have HL63 := Lib.hid (show (l : Int) ≤ 9223372036854775807 from by have := HLM.out; unfold maxLen at this; omega)
  go_enter Tryd.func3, Tryd.ntmps3
  by_cases h10 : l ≤ 10
  case neg =>
    have g0 : decide ((10 : Int) < (l : Int)) = true := decide_eq_true (by omega)
    clear h10
    go_wp2_with (fail)
    refine (HAW.out w (Below.refl _ _)).mono ?_
    rintro e w2 ⟨rfl, hb2⟩
    have HC2 := Lib.hid hb2
    clear hb2
    go_wp2_with (fail)
    go_ret
    exact ⟨rfl, HC2.out⟩
  have g0 : decide ((10 : Int) < (l : Int)) = false := decide_eq_false (by omega)
  have H10 := Lib.hid h10
  clear h10
  go_upto_region 4 with (fail)
  have hrow : Ixs w.heap.size (w.alloc (.cells #[] 3)) (.slice (some ⟨w.heap.size, 0, none⟩) 0 0) 0 [] := World.ownsRow_lit (base := w.heap.size) (e := 3) (size := 1) w #[] 0 (Nat.le_refl _) (by unfold maxLen; omega) rfl
  obtain ⟨W1, hW1⟩ : ∃ W1, W1 = w.alloc (.cells #[] 3) := ⟨_, rfl⟩
  have hb1 : Below w.heap.size w W1 := by rw [hW1]; exact box_new _
  rw [← hW1] at hrow ⊢
  clear hW1
  have HB1 := Lib.hid hb1; have HROW := Lib.hid hrow
  clear hb1 hrow
  generalize hE0 : w.heap.size = E0 at *
  have HE0 := Lib.hid hE0
  clear hE0 g0
  go_wp2_with (fail)
  go_loopw [3, 4, 5, 6, 7, 8, 9] (fun s3 s4 i _ _ _ _ wr => ∃ (j m c : Nat) (a : Option Addr), j ≤ l ∧ i = .int .i64 j ∧ s3 = .slice a m c ∧ s4 = .int .i64 (wts (ts.take j) : Nat) ∧ Hid (m = (bindK (ts.take j)).length) ∧ Hid (Ixs E0 wr (.slice a m c) m (bindK (ts.take j))) ∧ Hid (allK smallB (ts.take j) = true ∧ wts (ts.take j) ≤ 400 * j) ∧ Hid (Below E0 w wr)) (fun _ _ i _ _ _ _ _ => l - (intOf i).toNat)
  case atStart => exact ⟨0, 0, 0, _, Nat.zero_le _, rfl, rfl, by simp [wts_nil], Lib.hid (by simp [bindK_nil]), Lib.hid (by rw [List.take_zero, bindK_nil]; exact HROW.out), Lib.hid ⟨by rw [List.take_zero, allK_nil], by rw [List.take_zero, wts_nil]; omega⟩, HB1⟩
  case round =>
    obtain ⟨j, m, c, a, hj, rfl, rfl, rfl, HM, HI, HA, HB⟩ := hrel
    by_cases hlt : j < l
    · have hjt : j < ts.length := by rw [HLEN.out]; exact hlt
      obtain ⟨bb, o, v, hp, hat, hrg⟩ := HK.out.load j hjt
      have HAT := Lib.hid (fun (W : World) (hb : Below E0 w W) => hat.below (HE0.out ▸ hb)); have HRG := Lib.hid (fun (W : World) (hb : Below E0 w W) => range_below hrg (HE0.out ▸ hb))
      have hwt := wts_take ts j hjt
      have hbk := bindK_take' ts j hjt
      have hat0 := hat
      have HWT := Lib.hid hwt; have HBK := Lib.hid hbk; have HA0 := Lib.hid hat0; have HJT := Lib.hid hjt
      clear hat hrg hwt hbk hat0 hjt
      have j0 : (0 : Int) ≤ (j : Int) := by omega
      have j1 : (j : Int) < (l : Int) := by omega
      have j3 : (l : Int) ≤ 10 := by have := H10.out; omega
      have j2 : decide ((j : Int) < (l : Int)) = true := decide_eq_true j1
      subst hp
      go_wp2_with (refine at_load rfl _ rfl bb (o + j * 19) rfl (HRG.out wr HB.out) ?_)
      refine (great_walk (tget ts j) _ v _ wr (HAT.out wr HB.out)).mono ?_
      rintro e w1 ⟨rfl, hb1⟩
      have HC1 := Lib.hid (below_then HB.out hb1 (by have := HB.out.size; have := HE0.out; omega)); have HI1 := Lib.hid (own_below HI.out hb1 : Ixs E0 w1 (.slice a m c) m (bindK (ts.take j)))
      clear hb1
      cases hq1 : greatT (tget ts j)
      case true =>
        go_wp2_with (fail)
        refine (HAW.out w1 (HE0.out ▸ HC1.out)).mono ?_
        rintro e w2 ⟨rfl, hb2⟩
        have HC2 := Lib.hid (below_then HC1.out hb2 (by have := HC1.out.size; have := HE0.out; omega))
        clear hb2
        go_wp2_with (fail)
        go_ret
        exact ⟨rfl, by rw [HE0.out]; exact HC2.out⟩
      have hs1 := small_of hq1
      have hfew := (bind_few _).1 (tget ts j) (Nat.le_refl _) hs1.2
      have hbok := bind_ok _ _ _ v _ w (Nat.le_refl _) HA0.out
      have HS := Lib.hid hs1; have HF := Lib.hid hfew; have HBOK := Lib.hid hbok
      clear hs1 hfew hq1 hbok
      go_wp2_with (refine at_load rfl _ rfl bb (o + j * 19) rfl (HRG.out w1 HC1.out) ?_)
      refine (refBinds_walk (tget ts j) _ v _ w1 (HAT.out w1 HC1.out) (by have := HS.out.1; omega) (by have := HF.out.1; have := HS.out.1; omega)).mono ?_
      rintro e w2 ⟨a2, c2, rfl, hix2, hb2⟩
      have hrd2 := RdI.of_own hix2 HBOK.out
      have hC2 : Below E0 w w2 := below_then HC1.out hb2 (by have := HC1.out.size; have := HE0.out; omega)
      have hi2 : Ixs E0 w2 (.slice a m c) m (bindK (ts.take j)) := own_below HI1.out hb2
      have hmm : m ≤ 200000 := by
        have h1 := (bind_few _).2 (ts.take j) (Nat.le_refl _) HA.out.1
        have h2 := HA.out.2; have h3 := HM.out; have h4 := H10.out
        omega
      obtain ⟨a3, c3, w3, hrun, hi3, hg3, -⟩ := append_rd (c := c2) hi2 hrd2 (by have := HF.out.1; have := HS.out.1; omega) (by have := hC2.size; have := HE0.out; omega)
      have hC3 : Below E0 w w3 := hC2.grown hg3 (by have := hC2.size; have := HE0.out; omega) (fun q hq => (hi2.lt q hq).1)
      rw [← HBK.out] at hi3
      have hm3 : m + (bindT (tget ts j)).length = (bindK (ts.take (j + 1))).length := by rw [HBK.out, List.length_append, ← HM.out]
      have HRUN := Lib.hid hrun; have HI3 := Lib.hid hi3; have HC3 := Lib.hid hC3; have HM3 := Lib.hid hm3; have HMM := Lib.hid hmm
      clear hrun hi3 hC3 hm3 hg3 hi2 hrd2 hix2 hb2 hC2 hmm
      generalize hn3 : (bindT (tget ts j)).length = n3 at *
      have HN3 := Lib.hid hn3
      clear hn3
      go_upto_region 11 with (at_builtin; refine append_made rfl (.tmp 27) (.tmp 32) 24 24 rfl (.slice a m c) (.slice a2 n3 c2) _ rfl rfl HRUN.out ?_)
      go_wp2_with (refine at_load rfl _ rfl bb (o + j * 19) rfl (HRG.out w3 HC3.out) ?_)
      refine (refAll_walk (wt (tget ts j)) (tget ts j) _ v _ w3 w3 (Nat.le_refl _) (by have := HS.out.1; omega) (HAT.out w3 HC3.out) (Below.refl _ _)).mono ?_
      rintro e w4 ⟨g4, c4, xs4, rfl, -, -, hb4⟩
      have HC4 := Lib.hid (below_then HC3.out hb4 (by have := HC3.out.size; have := HE0.out; omega)); have HI4 := Lib.hid (own_below HI3.out hb4 : Ixs E0 w4 (.slice a3 (m + n3) c3) (m + n3) (bindK (ts.take (j + 1))))
      clear hb4 HI3
      have hA4 : allK smallB (ts.take (j + 1)) = true ∧ wts (ts.take (j + 1)) ≤ 400 * (j + 1) := ⟨allK_take ts j HJT.out HA.out.1 HS.out.2, by rw [HWT.out]; have := HA.out.2; have := HS.out.1; omega⟩
      have HA4 := Lib.hid hA4
      clear hA4
      have hA5 : ((wts (ts.take j) : Nat) : Int) ≤ 4000 := by have := HA.out.2; have := H10.out; omega
      have hB5 : ((wt (tget ts j) : Nat) : Int) ≤ 400 := by have := HS.out.1; omega
      have hapt := fun (W : World) (hb : Below E0 w W) => apart_walk (tget ts j) _ v _ W (HAT.out W hb) (by have := HS.out.1; omega) HF.out.2
      have hapr := fun (W : World) (hb : Below E0 w W) => refApart_walk (tget ts j) _ v _ W (HAT.out W hb) (by have := HS.out.1; omega) (by have := HF.out.1; have := HS.out.1; have := HN3.out; omega)
      rw [show apartAt (apartT (tget ts j)) = (apartT (tget ts j)).getD 0 from rfl] at hapr
      generalize hX : (apartT (tget ts j)).getD 0 = X at *
      generalize hY : (apartT (tget ts j)).isNone = Y at *
      have HAPT := Lib.hid hapt; have HAPR := Lib.hid hapr
      clear hapt hapr hX hY HF HBOK
      generalize hSA : wts (ts.take j) = SA at *
      generalize hSB : wt (tget ts j) = SB at *
      have HSA := Lib.hid hSA; have HSB := Lib.hid hSB
      clear hSA hSB
      go_wp2_with (refine at_load rfl _ rfl bb (o + j * 19) rfl (HRG.out w4 HC4.out) ?_)
      refine (HAPT.out w4 HC4.out).mono ?_
      rintro e w5 ⟨rfl, hb5⟩
      have HC5 := Lib.hid (below_then HC4.out hb5 (by have := HC4.out.size; have := HE0.out; omega)); have HI5 := Lib.hid (own_below HI4.out hb5 : Ixs E0 w5 (.slice a3 (m + n3) c3) (m + n3) (bindK (ts.take (j + 1))))
      clear hb5 HI4
      go_wp2_with (refine at_load rfl _ rfl bb (o + j * 19) rfl (HRG.out w5 HC5.out) ?_)
      refine (HAPR.out w5 HC5.out).mono ?_
      rintro e w6 ⟨rfl, hb6⟩
      have HC6 := Lib.hid (below_then HC5.out hb6 (by have := HC5.out.size; have := HE0.out; omega)); have HI6 := Lib.hid (own_below HI5.out hb6 : Ixs E0 w6 (.slice a3 (m + n3) c3) (m + n3) (bindK (ts.take (j + 1))))
      clear hb6 HI5
      have e1 : (X != X) = false := by simp
      have e2 : (Y != Y) = false := by simp
      go_wp2_with (fail)
      go_roundw
      case rel => exact ⟨j + 1, m + n3, c3, a3, by omega, by go_num, rfl, by rw [HWT.out]; first | rfl | (simp; done) | go_num, HM3, HI6, HA4, HC6⟩
      case measure => simp [intOf]; omega
    · obtain rfl : j = l := by omega
      have hk := List.take_of_length_le (l := ts) (i := j) (by rw [HLEN.out]; exact Nat.le_refl _)
      have hi := HI.out; have hm := HM.out; have ha := HA.out
      rw [hk] at hi hm ha ⊢
      have hbok := binds_ok HK.out
      have hrd := RdI.of_own hi hbok
      have hfew := (bind_few _).2 ts (Nat.le_refl _) ha.1
      have hbk := bindsK_walk ts p j d w wr HLEN.out HLM.out (fun W hW => rowS_kids HK.out (by rw [HE0.out]; exact below_then HB.out hW (by have := HB.out.size; have := HE0.out; omega))) (by rw [HE0.out]; exact HB.out) (by have := ha.2; have := H10.out; omega) ha.1
      have hsz := fun (W : World) (hb : Below E0 w W) => size_walk ts p j d w W HLEN.out HLM.out (fun W' hW => rowS_kids HK.out (by rw [HE0.out]; exact below_then hb hW (by have := hb.size; have := HE0.out; omega))) (by rw [HE0.out]; exact hb) (by have := ha.2; have := H10.out; omega) ha.1
      have HRD := Lib.hid hrd; have HBKW := Lib.hid hbk; have HSZ := Lib.hid hsz; have HFEW := Lib.hid hfew; have HA6 := Lib.hid ha; have HBOK := Lib.hid hbok; have HM6 := Lib.hid hm
      clear hi hm ha hk hbok hrd hfew hbk hsz
      go_wp2_with (fail)
      refine HBKW.out.mono ?_
      rintro e w1 ⟨a1, c1, rfl, hix1, hb1⟩
      have hrd1 := RdI.of_own hix1 HBOK.out
      have HC1 := Lib.hid (below_then HB.out hb1 (by have := HB.out.size; have := HE0.out; omega))
      have hq := equalInts_walkM (c := c1) (d := c) hrd1 (HRD.out.below hb1) (by have := HFEW.out.1; have := HA6.out.2; have := H10.out; omega) (by have := HFEW.out.1; have := HA6.out.2; have := H10.out; have := HM6.out; omega)
      rw [decide_eq_true rfl] at hq
      have HQ := Lib.hid hq
      clear hq hrd1 hix1 hb1
      go_wp2_with (fail)
      refine HQ.out.mono ?_
      rintro e w2 ⟨rfl, hb2⟩
      have HC2 := Lib.hid (below_then HC1.out hb2 (by have := HC1.out.size; have := HE0.out; omega))
      clear hb2
      go_wp2_with (fail)
      refine (HSZ.out w2 HC2.out).mono ?_
      rintro e w3 ⟨rfl, hb3⟩
      have HC3 := Lib.hid (below_then HC2.out hb3 (by have := HC2.out.size; have := HE0.out; omega))
      clear hb3
      have e3 : (((wts ts : Nat) : Int) == ((wts ts : Nat) : Int)) = true := by simp
      generalize wts ts = X at *
      go_wp2_with (fail)
      refine (HAW.out w3 HC3.out).mono ?_
      rintro e w4 ⟨rfl, hb4⟩
      have HC4 := Lib.hid (below_then HC3.out hb4 (by have := HC3.out.size; have := HE0.out; omega))
      clear hb4
      go_wp2_with (fail)
      go_ret
      exact ⟨rfl, by rw [HE0.out]; exact HC4.out⟩
end Aterm
end Go.Proofs.YtolpdhkgkjnbfaaDoor
namespace Go.Proofs.YtolpdhkgkjnbfaaDoor
open Go.RowKit Go.ChangeShapes
namespace Words

/-- AN ARRAY OF TEXTS THAT READS AS A TABLE HOLDS THE TABLE's TEXTS, cell for cell. -/
theorem cells_of_strs {H : Type} {enc : TypeId × Value → H} {P : Program} {w : World} {base : Nat} {sp : Nat → Bool} {held : Bool} {fuel : Nat} {t e : TypeId} {n : Nat} {cs : List Value} {zs : List (List UInt8)} {p : List MemPlace}
    (ht : P.underlying t = some (.array n e)) (he : P.underlying e = some .string) (hce : P.cellsOf e = 1) (hct : P.cellsOf t = n)
    (h : DataW.trod enc P w base sp held fuel t cs = some (.agg (zs.map fun z => .lit (.string z)), p)) : cs = zs.map fun z => Value.string ⟨z.toArray⟩ := by
  cases fuel with
  | zero => simp [DataW.trod] at h
  | succ fuel =>
    simp only [DataW.trod, ht, hce, hct, Nat.mul_one] at h
    split at h
    · rename_i hl
      obtain ⟨xs, hm, hx⟩ := Option.map_eq_some_iff.1 h
      have hxs : xs.map (·.1) = zs.map fun z => (DataW.lit (.string z) : DataW H) := by
        have := congrArg Prod.fst hx
        simpa using this
      have hxl : xs.length = n := by simpa using Lib.mapM_length hm
      have hzl : zs.length = n := by
        have := congrArg List.length hxs
        simp at this
        omega
      apply List.ext_getElem?
      intro i
      by_cases hi : i < n
      · obtain ⟨b, hb, hf⟩ := Lib.mapM_at hm i i (by simp [hi])
        obtain ⟨z, hc, rfl, _⟩ := DataW.trod_string he hf
        have h1 : cs[i]? = some (.string z) := by
          have := congrArg (·[0]?) hc
          simpa [List.getElem?_take, List.getElem?_drop] using this
        have h2 : (xs.map (·.1))[i]? = some (DataW.lit (.string z.data.toList) : DataW H) := by simp [hb]
        rw [hxs] at h2
        simp only [List.getElem?_map, Option.map_eq_some_iff, DataW.lit.injEq, Lit.string.injEq] at h2
        obtain ⟨z', hz', e⟩ := h2
        simp [h1, hz', e]
      · rw [List.getElem?_eq_none (by omega), List.getElem?_eq_none (by simp; omega)]
    · cases h

theorem gKw : Tryd.prog.globalNamed "enclave/words.keywords" = some 0 := by kernel_rfl
theorem tKw : (Tryd.prog.globals[0]?).map (·.type) = some 100 := by kernel_rfl
theorem kwLaid_of {W : World} {r : List (String × DataW Unit)} (h : laidMet Tryd.prog (("enclave/words.keywords", Rows.laid_enclave_words_keywords) :: r) W) : KwLaid W := by
  obtain ⟨ps, ⟨g', t', cs, fuel, p, q, hg', ht', hvar, hd, _, _⟩, _⟩ := h
  obtain rfl := Option.some.inj (gKw.symm.trans hg')
  obtain rfl := Option.some.inj (tKw.symm.trans ht')
  have hcs := cells_of_strs (zs := kwTexts) Tryd.underlying100 Tryd.underlying9 (by kernel_rfl) (by kernel_rfl) hd
  intro k hk
  have := World.var?_cell gKw hvar k
  obtain ⟨l⟩ := cs
  simp only at hcs
  subst hcs
  have hk' : k < kwTexts.length := hk
  rw [this]
  simp [kwT, List.getD, hk']

end Words
end Go.Proofs.YtolpdhkgkjnbfaaDoor
