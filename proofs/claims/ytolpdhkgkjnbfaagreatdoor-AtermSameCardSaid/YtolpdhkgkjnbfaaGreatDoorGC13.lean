/-The program's Size of terms with regions. (Written by wip/tools/atsizep.py.) Terms with regions, without these: mathematics. The walk of the document's row of all nodes: the loop. Rows of terms that a call made, read. A term that is made of a term with regions: what memory holds on the way. (Written by wip/tools/aterase.py.) -/
import Derived.Test.YtolpdhkgkjnbfaaGreatDoorGC12
import Derived.Test.YtolpdhkgkjnbfaaGreatDoorGC08
import Derived.Test.YtolpdhkgkjnbfaaGreatDoorGC05
import Derived.Test.YtolpdhkgkjnbfaaGreatDoorGC07
import Derived.Deep.QuietTactic
import Derived.BigQuiet
import Derived.Test.YtolpdhkgkjnbfaaGreatDoorGC10
import Derived.Deep.RegionLaw
import Derived.Deep.AppendLies
namespace Go.Proofs.YtolpdhkgkjnbfaaGreatDoor
open Go.RowKit
set_option linter.unusedVariables false
set_option linter.unusedSimpArgs false
namespace Aterm
open Effect (RdI nget nget_at nget_mem ret_bool ret_i64 lt_of_block heap_alloc_new ofA)
open Rt (box_new box_at below_then)

/-- The function that each is handed. -/
def fnBox (F N : Nat) : Obj := .cells #[.func (.func F) #[] #[.pointer (some ⟨N, 0, none⟩)]] 52 (0, 0)
set_option maxHeartbeats 1600000 in
/-- What each does with what all does. -/
theorem each_of (F N : Nat) (p : Option Addr) (l d : Nat) (w : World) (Q : World → Prop)
    (h : Calls Tryz.prog 18 #[.func (.func 56) #[] #[.pointer (some ⟨w.heap.size, 0, none⟩)], .slice p l d] (w.alloc (.cells #[.func (.func F) #[] #[.pointer (some ⟨N, 0, none⟩)]] 52)) fun en w' => (∃ b, en = .returned (.bool b)) ∧ Q w') :
    Calls Tryz.prog 32 #[.func (.func F) #[] #[.pointer (some ⟨N, 0, none⟩)], .slice p l d] w fun en w' => en = .returned (.tuple #[]) ∧ Q w' := by
  have H := Lib.hid h
  clear h
  go_enter Tryz.func32, Tryz.ntmps32
  go_wp2_with (fail)
  refine H.out.mono ?_
  rintro en w1 ⟨⟨b, rfl⟩, hq⟩
  have HQ := Lib.hid hq
  clear hq
  go_wp2_with (fail)
  go_end0
  exact ⟨rfl, HQ.out⟩

/-- The count's block, and that of the function that counts. -/
structure Cnt (w0 : World) (N E n : Nat) (W : World) : Prop where
  box : W.heap[N]? = some (.cells #[.int .i64 n] 3 (0, 0))
  fn : W.heap[E]? = some (fnBox 33 N)
  ne : E ≠ N
  low : w0.heap.size ≤ N
theorem Cnt.below {w0 : World} {N E n : Nat} {W W' : World} (h : Cnt w0 N E n W) (hb : Below W.heap.size W W') : Cnt w0 N E n W' :=
  ⟨(hb.block N (lt_of_block h.box)).trans h.box, (hb.block E (lt_of_block h.fn)).trans h.fn, h.ne, h.low⟩
def CntP (N : Nat) (k : Nat) (_ : Option Obj) : Prop := k = N
theorem Cnt.step {w0 : World} {N E n : Nat} {W : World} (h : Cnt w0 N E n W) : Cnt w0 N E (n + 1) (W.setCell ⟨N, 0, none⟩ (.int .i64 ((n : Int) + 1))) ∧ Tch (CntP N) W (W.setCell ⟨N, 0, none⟩ (.int .i64 ((n : Int) + 1))) := by
  have ho : ∀ k, k ≠ N → (W.setCell ⟨N, 0, none⟩ (.int .i64 ((n : Int) + 1))).heap[k]? = W.heap[k]? := fun k hk => Below.heap_setCell _ _ _ _ hk
  refine ⟨⟨?_, (ho _ h.ne).trans h.fn, h.ne, h.low⟩, ⟨rfl, rfl, rfl, by simp [World.setCell], fun k _ hn => ho k hn⟩⟩
  simp [World.setCell, Array.getElem?_modify, h.box]
def CntI (w0 : World) (N E : Nat) (r n : Nat) (W : World) : Prop := Cnt w0 N E n W ∧ n + r ≤ 1000000
theorem CntI.goes {w0 : World} {N E : Nat} (hN : w0.heap.size ≤ N) : Goes w0 (CntP N) (CntI w0 N E) where
  low := fun k O hk h => by have h' : k = N := h; omega
  new := fun r s W h cs fz hp => by
    have e1 := lt_of_block h.1.box
    have h' : W.heap.size = N := hp
    omega
  keep := fun r s W W' h hb => ⟨h.1.below hb, h.2⟩
  less := fun r r' s W h hr => ⟨h.1, by have := h.2; omega⟩
set_option maxRecDepth 10000 in
set_option maxHeartbeats 1600000 in
theorem size1_walk (w0 : World) (N E n : Nat) (W : World) (h : Hd) (v : V) (l : Nat) (hC : Cnt w0 N E n W) (hn : n < 1000000) :
    Calls Tryz.prog 33 #[.agg #[.int .u8 h.h.k, .int .u8 h.h.op, .int .i64 h.h.pl, .int .i64 h.h.n, .string h.h.name, .string h.h.arg, .string h.h.exn, .int .i64 h.rho, .slice v.ra h.rhos.length v.rc, .slice v.ea h.e.length v.ec, .int .u8 h.ty.h.k, .int .i64 h.ty.h.r, .slice v.tea h.ty.h.e.length v.tec, .slice v.tka h.ty.ks.length v.tkc, .int .u8 h.re.h.k, .int .i64 h.re.h.r, .slice v.sea h.re.h.e.length v.sec, .slice v.ska h.re.ks.length v.skc, .slice v.ka l v.kc], .pointer (some ⟨N, 0, none⟩)] W fun en W' => en = .returned (.tuple #[]) ∧ Cnt w0 N E (n + 1) W' ∧ Tch (CntP N) W W' := by
  have HC := Lib.hid hC
  clear hC
  go_enter Tryz.func33, Tryz.ntmps33
  go_upto_region 1 with (fail)
  obtain ⟨W0, hW0⟩ : ∃ W0, W0 = W.alloc (.cells #[.int .u8 h.h.k, .int .u8 h.h.op, .int .i64 h.h.pl, .int .i64 h.h.n, .string h.h.name, .string h.h.arg, .string h.h.exn, .int .i64 h.rho, .slice v.ra h.rhos.length v.rc, .slice v.ea h.e.length v.ec, .int .u8 h.ty.h.k, .int .i64 h.ty.h.r, .slice v.tea h.ty.h.e.length v.tec, .slice v.tka h.ty.ks.length v.tkc, .int .u8 h.re.h.k, .int .i64 h.re.h.r, .slice v.sea h.re.h.e.length v.sec, .slice v.ska h.re.ks.length v.skc, .slice v.ka l v.kc] 31) := ⟨_, rfl⟩
  have hbx : Box W0 W.heap.size h v l := by rw [hW0]; exact box_of (w := W) (h := h) (v := v) (l := l)
  have hb0 : Below W.heap.size W W0 := by rw [hW0]; exact box_new _
  rw [← hW0]
  clear hW0
  have HBW := Lib.hid hb0
  generalize hN0 : W.heap.size = N0 at hbx ⊢
  have HB0 := Lib.hid hb0; have HBX := Lib.hid hbx
  obtain ⟨b0, b1, b2, b3, b4, b5, b6, b7, b8, b9, b10, b11, b12, b13, b14, b15, b16, b17, b18⟩ := hbx
  clear hb0 hN0 b0 b1 b2 b3 b4 b5 b6 b7 b8 b9 b10 b11 b12 b13 b14 b15 b16 b17 b18
  have hc0 := HC.out.below HBW.out
  have hst := hc0.step
  have cN : W0.cell? ⟨N, 0, none⟩ = some (.int .i64 n) := by simp [World.cell?, hc0.box]
  have fN : W0.frozen? ⟨N, 0, none⟩ = false := by simp [World.frozen?, hc0.box]
  have HST := Lib.hid hst
  clear hc0 hst
  go_wp2_with (fail)
  go_end0
  exact ⟨rfl, HST.out.1, (Tch.of_below HBW.out).trans HST.out.2⟩
set_option maxRecDepth 10000 in
set_option maxHeartbeats 1600000 in
theorem eachSize_walk (w0 : World) (N E : Nat) : Steps 56 [.pointer (some ⟨E, 0, none⟩)] (fun _ _ => true) (fun n _ => n + 1) smallB w0 (CntP N) (CntI w0 N E) := by
  intro r n W t h v l hi hT hC hb0
  obtain ⟨hA, hlen⟩ := hi
  have hs1 := fun (W' : World) (hb : Below W.heap.size W W') => size1_walk w0 N E n W' h v l (hA.below hb) (by omega)
  have HA := Lib.hid hA; have HS1 := Lib.hid hs1; have HLEN := Lib.hid hlen
  clear hA hs1 hT hC hb0 hlen
  show Calls Tryz.prog 56 #[.agg #[.int .u8 h.h.k, .int .u8 h.h.op, .int .i64 h.h.pl, .int .i64 h.h.n, .string h.h.name, .string h.h.arg, .string h.h.exn, .int .i64 h.rho, .slice v.ra h.rhos.length v.rc, .slice v.ea h.e.length v.ec, .int .u8 h.ty.h.k, .int .i64 h.ty.h.r, .slice v.tea h.ty.h.e.length v.tec, .slice v.tka h.ty.ks.length v.tkc, .int .u8 h.re.h.k, .int .i64 h.re.h.r, .slice v.sea h.re.h.e.length v.sec, .slice v.ska h.re.ks.length v.skc, .slice v.ka l v.kc], .pointer (some ⟨E, 0, none⟩)] W _
  go_enter Tryz.func56, Tryz.ntmps56
  go_upto_region 1 with (fail)
  obtain ⟨W0, hW0⟩ : ∃ W0, W0 = W.alloc (.cells #[.int .u8 h.h.k, .int .u8 h.h.op, .int .i64 h.h.pl, .int .i64 h.h.n, .string h.h.name, .string h.h.arg, .string h.h.exn, .int .i64 h.rho, .slice v.ra h.rhos.length v.rc, .slice v.ea h.e.length v.ec, .int .u8 h.ty.h.k, .int .i64 h.ty.h.r, .slice v.tea h.ty.h.e.length v.tec, .slice v.tka h.ty.ks.length v.tkc, .int .u8 h.re.h.k, .int .i64 h.re.h.r, .slice v.sea h.re.h.e.length v.sec, .slice v.ska h.re.ks.length v.skc, .slice v.ka l v.kc] 31) := ⟨_, rfl⟩
  have hbx : Box W0 W.heap.size h v l := by rw [hW0]; exact box_of (w := W) (h := h) (v := v) (l := l)
  have hb0 : Below W.heap.size W W0 := by rw [hW0]; exact box_new _
  rw [← hW0]
  clear hW0
  have HBW := Lib.hid hb0
  generalize hN0 : W.heap.size = N0 at hbx ⊢
  have HB0 := Lib.hid hb0; have HBX := Lib.hid hbx; have HRG := Lib.hid hbx.range
  obtain ⟨b0, b1, b2, b3, b4, b5, b6, b7, b8, b9, b10, b11, b12, b13, b14, b15, b16, b17, b18⟩ := hbx
  clear hb0 hN0 b0 b1 b2 b3 b4 b5 b6 b7 b8 b9 b10 b11 b12 b13 b14 b15 b16 b17 b18
  have hc0 := HA.out.below HBW.out
  have cE : W0.cell? ⟨E, 0, none⟩ = some (.func (.func 33) #[] #[.pointer (some ⟨N, 0, none⟩)]) := by simp [World.cell?, hc0.fn, fnBox]
  clear hc0
  go_wp2_with (refine at_load rfl _ rfl N0 0 rfl HRG.out ?_)
  refine (HS1.out W0 HBW.out).mono ?_
  rintro en w1 ⟨rfl, hc, hs⟩
  have HC := Lib.hid hc; have HS := Lib.hid hs
  clear hc hs cE
  go_wp2_with (fail)
  go_ret
  exact ⟨rfl, ⟨HC.out, by have := HLEN.out; omega⟩, (Tch.of_below HBW.out).trans HS.out⟩
theorem fold_count : ∀ (l : List AT) (n : Nat), l.foldl (fun n _ => n + 1) n = n + l.length
  | [], n => rfl
  | h :: l, n => by rw [List.foldl_cons, fold_count l (n + 1), List.length_cons]; omega
set_option maxRecDepth 10000 in
set_option maxHeartbeats 1600000 in
theorem size_walk (ts : List AT) (p : Option Addr) (l d : Nat) (w0 w : World) (hl : ts.length = l) (hlm : l ≤ maxLen) (hk : ∀ W, Below w.heap.size w W → RowS w0 W p ts) (hb00 : Below w0.heap.size w0 w) (hw : wts ts ≤ 1000000) (hc : allK smallB ts = true) :
    Calls Tryz.prog 17 #[.slice p l d] w fun e w' => e = .returned (.int .i64 (wts ts : Nat)) ∧ Below w.heap.size w w' := by
  have hsz : (w.alloc (.cells #[.int .i64 0] 3)).heap.size = w.heap.size + 1 := by simp
  have h0 : Cnt w0 w.heap.size (w.alloc (.cells #[.int .i64 0] 3)).heap.size 0 ((w.alloc (.cells #[.int .i64 0] 3)).alloc (.cells #[.func (.func 33) #[] #[.pointer (some ⟨w.heap.size, 0, none⟩)]] 52)) := by
    refine ⟨?_, heap_alloc_new _ _, by omega, hb00.size⟩
    exact ((box_new _).block _ (by simp)).trans (heap_alloc_new _ _)
  have hbb : Below w.heap.size w ((w.alloc (.cells #[.int .i64 0] 3)).alloc (.cells #[.func (.func 33) #[] #[.pointer (some ⟨w.heap.size, 0, none⟩)]] 52)) := (box_new _).trans ((box_new _).mono (by simp))
  have hlowP : ∀ k O, k < w.heap.size → ¬ CntP w.heap.size k O := fun k O hk h => by have h' : k = w.heap.size := h; omega
  have h1 := allEach_walk (fun _ _ => true) (fun n _ => n + 1) smallB w0 (CntP w.heap.size) (w.alloc (.cells #[.int .i64 0] 3)).heap.size (CntI w0 w.heap.size (w.alloc (.cells #[.int .i64 0] 3)).heap.size) (CntI.goes hb00.size) (eachSize_walk w0 w.heap.size _) (wts ts) ts p l d 0 0 _ (Nat.le_refl _) hl hlm
    (fun W hW => hk W (hW.below hlowP hbb (Nat.le_refl _))) (below_then hb00 hbb hb00.size) hc ⟨h0, by omega⟩
  have h2 := each_of 33 w.heap.size p l d _ (fun w' => Cnt w0 w.heap.size (w.alloc (.cells #[.int .i64 0] 3)).heap.size (wts ts) w' ∧ Below w.heap.size w w') (h1.mono (by
    rintro en w' ⟨rfl, hi, hs⟩
    have hf : foK (fun _ _ => true) (fun n _ => n + 1) ts 0 = (true, wts ts) := by
      rw [foK_flat, foL_true, fold_count, (flat_len (wts ts)).2 ts (Nat.le_refl _), Nat.zero_add]
    rw [hf] at hi
    exact ⟨⟨_, rfl⟩, hi.1, hs.below hlowP hbb (Nat.le_refl _)⟩))
  have H2 := Lib.hid h2; have HW := Lib.hid hw
  clear h0 h1 h2 hk hl hlm hw hsz hbb hlowP hc hb00
  go_enter Tryz.func17, Tryz.ntmps17
  go_wp2_with (fail)
  refine H2.out.mono ?_
  rintro e w1 ⟨rfl, hC1, hb1⟩
  have c1 : w1.cell? ⟨w.heap.size, 0, none⟩ = some (.int .i64 (wts ts : Nat)) := by simp [World.cell?, hC1.box]
  have HB1 := Lib.hid hb1
  have HW2 := HW.out
  generalize hX : wts ts = X at *
  have HX := Lib.hid hX
  clear hC1 hX hb1
  go_wp2_with (fail)
  go_ret
  exact ⟨by rw [HX.out]; rfl, HB1.out⟩
end Aterm
end Go.Proofs.YtolpdhkgkjnbfaaGreatDoor
namespace Go.Proofs.YtolpdhkgkjnbfaaGreatDoor
open Go.RowKit
set_option linter.unusedVariables false
set_option linter.unusedSimpArgs false
namespace Aterm
theorem wts_ge : ∀ ts : List AT, ts.length ≤ wts ts
  | [] => by simp
  | t :: ts => by rw [wts_cons, List.length_cons]; have := wt_pos t; have := wts_ge ts; omega
/-! ### Without regions -/
/-- A head without regions. -/
def bareH (h : Hd) : Term.Hd := if h.h.k = 18 then { h.h with k := 2 } else h.h
mutual
def eraseT : AT → Term.Tm
  | .node h l => if h.h.k = 17 ∧ l ≠ [] then (eraseK l).headD (.node hd0.h []) else .node (bareH h) (eraseK l)
def eraseK : List AT → List Term.Tm
  | [] => []
  | t :: ts => eraseT t :: eraseK ts
end
theorem eraseT_eq (t : AT) : eraseT t = if t.h.h.k = 17 ∧ t.ks ≠ [] then (eraseK t.ks).headD (.node hd0.h []) else .node (bareH t.h) (eraseK t.ks) := by
  cases t
  conv => lhs; unfold eraseT
  rfl
theorem eraseK_nil : eraseK [] = [] := by unfold eraseK; rfl
theorem eraseK_cons (t : AT) (ts : List AT) : eraseK (t :: ts) = eraseT t :: eraseK ts := by conv => lhs; unfold eraseK
theorem eraseK_map : ∀ ts : List AT, eraseK ts = ts.map eraseT
  | [] => eraseK_nil
  | t :: ts => by rw [eraseK_cons, eraseK_map ts]; rfl
theorem eraseT_reg {t u : AT} {us : List AT} (hk : t.h.h.k = 17) (hs : t.ks = u :: us) : eraseT t = eraseT u := by
  rw [eraseT_eq, if_pos ⟨hk, by rw [hs]; simp⟩, hs, eraseK_cons]; rfl
theorem eraseT_no {t : AT} (hk : ¬ (t.h.h.k = 17 ∧ t.ks ≠ [])) : eraseT t = .node (bareH t.h) (eraseK t.ks) := by rw [eraseT_eq, if_neg hk]
end Aterm
end Go.Proofs.YtolpdhkgkjnbfaaGreatDoor
namespace Go.Proofs.YtolpdhkgkjnbfaaGreatDoor
open Go.RowKit
set_option linter.unusedVariables false
namespace Term

theorem own_below {w W : World} {B e size n : Nat} {v : Value} {xs : List Value} (h : w.ownsRow B e size v n xs) (hb : Below w.heap.size w W) : W.ownsRow B e size v n xs :=
  h.kept (row := none) ⟨hb.os, hb.tape, hb.output, hb.size, fun q hq _ => hb.block q hq⟩ (by cases v.ownBlock <;> simp)

end Term
end Go.Proofs.YtolpdhkgkjnbfaaGreatDoor
namespace Go.Proofs.YtolpdhkgkjnbfaaGreatDoor
open Go.RowKit
set_option linter.unusedVariables false
namespace Term

theorem below_then {B : Nat} {a w1 w2 : World} (h : Below B a w1) (hb : Below w1.heap.size w1 w2) (hB : B ≤ w1.heap.size) : Below B a w2 := h.trans (hb.mono hB)
theorem own_slice {w : World} {base e size n : Nat} {v : Value} {xs : List Value} (h : w.ownsRow base e size v n xs) : ∃ a c, v = .slice a n c ∧ c ≤ 9223372036854775807 ∧ n ≤ c := by
  rcases h.2 with ⟨hv, h0⟩ | ⟨g, cap, _, hv, _, _, h1, h2, _⟩
  · subst h0; exact ⟨none, 0, hv, by omega, Nat.le_refl _⟩
  · unfold maxLen at h2; exact ⟨_, cap, hv, by omega, h1⟩
end Term
end Go.Proofs.YtolpdhkgkjnbfaaGreatDoor
namespace Go.Proofs.YtolpdhkgkjnbfaaGreatDoor
open Go.RowKit
set_option linter.unusedVariables false
set_option linter.unusedSimpArgs false
namespace Aterm
open Effect (lt_of_block heap_alloc_new)
open Rt (box_new box_at below_then)
open Term (Tm TmIs Reads veil veil_to veil_at tcells)

def from_ (M : Nat) (i : Nat) : Bool := decide (M ≤ i)
/-- From block B on, but the row's own. -/
def seen (B : Nat) (v : Value) (i : Nat) : Bool := decide (B ≤ i ∧ v.ownBlock ≠ some i)
theorem seen_iff {B : Nat} {v : Value} {i : Nat} : seen B v i = true ↔ B ≤ i ∧ v.ownBlock ≠ some i := by unfold seen; exact decide_eq_true_iff
/-- A row of terms that grows: its cells, and its terms' kids, which lie in none of these. -/
def RowM (B : Nat) (v : Value) (ts : List Tm) (W : World) : Prop := ∃ xs, W.ownsRow B 38 8 v ts.length xs ∧ Term.Flat (veil (seen B v) W) xs ts
theorem RowM.nil (B : Nat) (W : World) : RowM B (.slice none 0 0) [] W := ⟨[], World.ownsRow_nil _ _ _ _, rfl⟩
theorem RowM.below {B : Nat} {v : Value} {ts : List Tm} {W W' : World} (h : RowM B v ts W) (hb : Below W.heap.size W W') : RowM B v ts W' := by
  obtain ⟨xs, h1, h2⟩ := h
  exact ⟨xs, own_below h1 hb, h2.reads (veil_to fun b hbl hp => ⟨hp, hb.block b hbl⟩)⟩
theorem own_cap {w : World} {base e size n : Nat} {v : Value} {xs : List Value} (h : w.ownsRow base e size v n xs) : ∃ a c, v = .slice a n c ∧ c ≤ maxLen ∧ n ≤ c := by
  rcases h.2 with ⟨hv, h0⟩ | ⟨g, cap, _, hv, _, _, h1, h2, _⟩
  · subst h0; exact ⟨none, 0, hv, by unfold maxLen; omega, Nat.le_refl _⟩
  · exact ⟨_, cap, hv, h2, h1⟩
/-- One term more. -/
theorem row_step {B M : Nat} {v v' : Value} {W W3 : World} {ts : List Tm} {xs : List Value} {t : Tm} {hd : Term.Hd} {q : Option Addr} {l c : Nat}
    (ho : W.ownsRow B 38 8 v ts.length xs) (hf : Term.Flat (veil (seen B v) W) xs ts) (hT : TmIs (veil (from_ M) W) hd q l c t) (hM : B ≤ M) (hg : ∀ g, v.ownBlock = some g → g < M)
    (ho3 : W3.ownsRow B 38 8 v' (ts.length + 1) (xs ++ tcells hd q l c)) (hgr : W.grownBy W3 v.ownBlock) (hat : v'.ownBlock = v.ownBlock ∨ v'.ownBlock = some W.heap.size) : RowM B v' (ts ++ [t]) W3 := by
  refine ⟨xs ++ tcells hd q l c, by rw [List.length_append]; exact ho3, ?_⟩
  have key : ∀ b, b < W.heap.size → B ≤ b → v.ownBlock ≠ some b → seen B v' b = true ∧ W3.heap[b]? = W.heap[b]? := fun b hb h1 h2 => by
    refine ⟨seen_iff.2 ⟨h1, ?_⟩, hgr.block b hb (fun e => h2 e.symm)⟩
    rcases hat with e | e <;> rw [e]
    · exact h2
    · intro e2; injection e2 with e2; omega
  refine (hf.reads (veil_to fun b hb hp => ?_)).append (Term.Flat.one (hT.reads' (veil_to fun b hb hp => ?_)))
  · obtain ⟨h1, h2⟩ := seen_iff.1 hp
    exact key b hb h1 h2
  · have h1 : M ≤ b := of_decide_eq_true hp
    exact key b hb (by omega) (fun e => by have := hg b e; omega)
theorem RowM.kids {B : Nat} {a : Option Addr} {c : Nat} {ts : List Tm} {W : World} (h : RowM B (.slice a ts.length c) ts W) : Term.Kids (veil (from_ B) W) a ts := by
  obtain ⟨xs, h1, h2⟩ := h
  by_cases h0 : ts.length = 0
  · rw [List.length_eq_zero_iff.1 h0]; exact .nokids _
  · have hat : ∃ g, a = some ⟨g, 0, none⟩ ∧ B ≤ g := by
      rcases h1.2 with ⟨_, h0'⟩ | ⟨g, cap, _, hv, hg, _⟩
      · omega
      · injection hv with hv; exact ⟨g, hv, hg⟩
    obtain ⟨g, rfl, hg⟩ := hat
    have hin : Reads (veil (seen B (.slice (some ⟨g, 0, none⟩) ts.length c)) W) (veil (from_ B) W) := veil_to fun b hb hp => ⟨decide_eq_true (seen_iff.1 hp).1, rfl⟩
    refine Term.kids_of_flat (fun j u hu => ?_) (h2.reads hin)
    have hc := h1.cells (g := g) rfl j u hu
    rw [Addr.add_lit, Nat.zero_add] at hc
    rw [World.cell?_of_block (veil_at (decide_eq_true hg))]
    exact hc
theorem RowM.off {B : Nat} {v : Value} {ts : List Tm} {W W' : World} (h : RowM B v ts W) (hb : ∀ b, B ≤ b → W'.heap[b]? = W.heap[b]?) : RowM B v ts W' := by
  obtain ⟨xs, h1, h2⟩ := h
  refine ⟨xs, ⟨h1.1, h1.2.imp id ?_⟩, h2.reads (veil_to fun b hbl hp => ⟨hp, hb b (seen_iff.1 hp).1⟩)⟩
  rintro ⟨g, cap, cur, rfl, hg, hh, r⟩
  exact ⟨g, cap, cur, rfl, hg, (hb g hg).trans hh, r⟩

/-- How it ends: a term in new memory alone. -/
def EraseEnd (r : Tm) (w : World) (e : Ending) (w' : World) : Prop :=
  ∃ q c, e = .returned (.agg #[.int .u8 r.h.k, .int .u8 r.h.op, .int .i64 r.h.pl, .int .i64 r.h.n, .string r.h.name, .string r.h.arg, .string r.h.exn, .slice q r.ks.length c]) ∧ TmIs (veil (from_ w.heap.size) w') r.h q r.ks.length c r ∧ Below w.heap.size w w'
/-- The terms made so far, in a row of one's own; the boxes: what is read, the result, what is made. -/
structure EraseAt (w : World) (h : Hd) (v : V) (l : Nat) (us : List Tm) (j : Nat) (a : Option Addr) (c0 : Nat) (W : World) : Prop where
  below : Below w.heap.size w W
  box : W.heap[w.heap.size]? = some (.cells #[.int .u8 h.h.k, .int .u8 h.h.op, .int .i64 h.h.pl, .int .i64 h.h.n, .string h.h.name, .string h.h.arg, .string h.h.exn, .int .i64 h.rho, .slice v.ra h.rhos.length v.rc, .slice v.ea h.e.length v.ec, .int .u8 h.ty.h.k, .int .i64 h.ty.h.r, .slice v.tea h.ty.h.e.length v.tec, .slice v.tka h.ty.ks.length v.tkc, .int .u8 h.re.h.k, .int .i64 h.re.h.r, .slice v.sea h.re.h.e.length v.sec, .slice v.ska h.re.ks.length v.skc, .slice v.ka l v.kc] 31 (0, 0))
  res : W.heap[w.heap.size + 1]? = some (.cells #[.int .u8 0, .int .u8 0, .int .i64 0, .int .i64 0, .string ⟨#[]⟩, .string ⟨#[]⟩, .string ⟨#[]⟩, .slice none 0 0] 38 (0, 0))
  out : W.heap[w.heap.size + 2]? = some (.cells #[.int .u8 (bareH h).k, .int .u8 h.h.op, .int .i64 h.h.pl, .int .i64 h.h.n, .string h.h.name, .string h.h.arg, .string h.h.exn, .slice a j c0] 38 (0, 0))
  row : RowM (w.heap.size + 3) (.slice a j c0) us W
  len : us.length = j
/-- A box, of its block. -/
theorem box_blk {W : World} {N : Nat} {h : Hd} {v : V} {l : Nat} {ty : TypeId} (hb : W.heap[N]? = some (.cells #[.int .u8 h.h.k, .int .u8 h.h.op, .int .i64 h.h.pl, .int .i64 h.h.n, .string h.h.name, .string h.h.arg, .string h.h.exn, .int .i64 h.rho, .slice v.ra h.rhos.length v.rc, .slice v.ea h.e.length v.ec, .int .u8 h.ty.h.k, .int .i64 h.ty.h.r, .slice v.tea h.ty.h.e.length v.tec, .slice v.tka h.ty.ks.length v.tkc, .int .u8 h.re.h.k, .int .i64 h.re.h.r, .slice v.sea h.re.h.e.length v.sec, .slice v.ska h.re.ks.length v.skc, .slice v.ka l v.kc] ty (0, 0))) : Box W N h v l := by
  unfold Box
  simp [World.cell?, hb]
theorem erase_start (w : World) (h : Hd) (v : V) (l : Nat) : EraseAt w h v l [] 0 none 0 (((w.alloc (.cells #[.int .u8 h.h.k, .int .u8 h.h.op, .int .i64 h.h.pl, .int .i64 h.h.n, .string h.h.name, .string h.h.arg, .string h.h.exn, .int .i64 h.rho, .slice v.ra h.rhos.length v.rc, .slice v.ea h.e.length v.ec, .int .u8 h.ty.h.k, .int .i64 h.ty.h.r, .slice v.tea h.ty.h.e.length v.tec, .slice v.tka h.ty.ks.length v.tkc, .int .u8 h.re.h.k, .int .i64 h.re.h.r, .slice v.sea h.re.h.e.length v.sec, .slice v.ska h.re.ks.length v.skc, .slice v.ka l v.kc] 31)).alloc (.cells #[.int .u8 0, .int .u8 0, .int .i64 0, .int .i64 0, .string ⟨#[]⟩, .string ⟨#[]⟩, .string ⟨#[]⟩, .slice none 0 0] 38)).alloc (.cells #[.int .u8 (bareH h).k, .int .u8 h.h.op, .int .i64 h.h.pl, .int .i64 h.h.n, .string h.h.name, .string h.h.arg, .string h.h.exn, .slice none 0 0] 38)) := by
  have n1 := heap_alloc_new w (.cells #[.int .u8 h.h.k, .int .u8 h.h.op, .int .i64 h.h.pl, .int .i64 h.h.n, .string h.h.name, .string h.h.arg, .string h.h.exn, .int .i64 h.rho, .slice v.ra h.rhos.length v.rc, .slice v.ea h.e.length v.ec, .int .u8 h.ty.h.k, .int .i64 h.ty.h.r, .slice v.tea h.ty.h.e.length v.tec, .slice v.tka h.ty.ks.length v.tkc, .int .u8 h.re.h.k, .int .i64 h.re.h.r, .slice v.sea h.re.h.e.length v.sec, .slice v.ska h.re.ks.length v.skc, .slice v.ka l v.kc] 31)
  have n2 := heap_alloc_new (w.alloc (.cells #[.int .u8 h.h.k, .int .u8 h.h.op, .int .i64 h.h.pl, .int .i64 h.h.n, .string h.h.name, .string h.h.arg, .string h.h.exn, .int .i64 h.rho, .slice v.ra h.rhos.length v.rc, .slice v.ea h.e.length v.ec, .int .u8 h.ty.h.k, .int .i64 h.ty.h.r, .slice v.tea h.ty.h.e.length v.tec, .slice v.tka h.ty.ks.length v.tkc, .int .u8 h.re.h.k, .int .i64 h.re.h.r, .slice v.sea h.re.h.e.length v.sec, .slice v.ska h.re.ks.length v.skc, .slice v.ka l v.kc] 31)) (.cells #[.int .u8 0, .int .u8 0, .int .i64 0, .int .i64 0, .string ⟨#[]⟩, .string ⟨#[]⟩, .string ⟨#[]⟩, .slice none 0 0] 38)
  have n3 := heap_alloc_new ((w.alloc (.cells #[.int .u8 h.h.k, .int .u8 h.h.op, .int .i64 h.h.pl, .int .i64 h.h.n, .string h.h.name, .string h.h.arg, .string h.h.exn, .int .i64 h.rho, .slice v.ra h.rhos.length v.rc, .slice v.ea h.e.length v.ec, .int .u8 h.ty.h.k, .int .i64 h.ty.h.r, .slice v.tea h.ty.h.e.length v.tec, .slice v.tka h.ty.ks.length v.tkc, .int .u8 h.re.h.k, .int .i64 h.re.h.r, .slice v.sea h.re.h.e.length v.sec, .slice v.ska h.re.ks.length v.skc, .slice v.ka l v.kc] 31)).alloc (.cells #[.int .u8 0, .int .u8 0, .int .i64 0, .int .i64 0, .string ⟨#[]⟩, .string ⟨#[]⟩, .string ⟨#[]⟩, .slice none 0 0] 38)) (.cells #[.int .u8 (bareH h).k, .int .u8 h.h.op, .int .i64 h.h.pl, .int .i64 h.h.n, .string h.h.name, .string h.h.arg, .string h.h.exn, .slice none 0 0] 38)
  generalize hO : (Obj.cells #[.int .u8 h.h.k, .int .u8 h.h.op, .int .i64 h.h.pl, .int .i64 h.h.n, .string h.h.name, .string h.h.arg, .string h.h.exn, .int .i64 h.rho, .slice v.ra h.rhos.length v.rc, .slice v.ea h.e.length v.ec, .int .u8 h.ty.h.k, .int .i64 h.ty.h.r, .slice v.tea h.ty.h.e.length v.tec, .slice v.tka h.ty.ks.length v.tkc, .int .u8 h.re.h.k, .int .i64 h.re.h.r, .slice v.sea h.re.h.e.length v.sec, .slice v.ska h.re.ks.length v.skc, .slice v.ka l v.kc] 31) = O at *
  generalize hO2 : (Obj.cells #[.int .u8 0, .int .u8 0, .int .i64 0, .int .i64 0, .string ⟨#[]⟩, .string ⟨#[]⟩, .string ⟨#[]⟩, .slice none 0 0] 38) = O2 at *
  generalize hO3 : (Obj.cells #[.int .u8 (bareH h).k, .int .u8 h.h.op, .int .i64 h.h.pl, .int .i64 h.h.n, .string h.h.name, .string h.h.arg, .string h.h.exn, .slice none 0 0] 38) = O3 at *
  have s1 : (w.alloc O).heap.size = w.heap.size + 1 := by simp
  have s2 : ((w.alloc O).alloc O2).heap.size = w.heap.size + 2 := by simp
  rw [s1] at n2
  rw [s2] at n3
  refine ⟨(box_new _).trans (((box_new _).trans ((box_new _).mono (by simp))).mono (by simp)), ?_, ?_, ?_, RowM.nil _ _, rfl⟩
  · rw [hO]; exact ((box_new _).block _ (by omega)).trans (((box_new _).block _ (by omega)).trans n1)
  · rw [hO2]; exact ((box_new _).block _ (by omega)).trans n2
  · rw [hO3]; exact n3
/-- One more. -/
theorem erase_step {w : World} {h : Hd} {v : V} {l : Nat} {us : List Tm} {j : Nat} {a : Option Addr} {c0 : Nat} {W w2 w3 : World} {xs : List Value} {hd : Term.Hd} {q2 : Option Addr} {l2 c2 M : Nat} {u : Tm} {O : Obj} {a3 : Option Addr} {c3 : Nat}
    (hA : EraseAt w h v l us j a c0 W) (hb2 : Below W.heap.size W w2) (ho : (w2.alloc O).ownsRow (w.heap.size + 3) 38 8 (.slice a j c0) j xs) (hf : Term.Flat (veil (seen (w.heap.size + 3) (.slice a j c0)) (w2.alloc O)) xs us)
    (hT : TmIs (veil (from_ M) w2) hd q2 l2 c2 u) (hM : W.heap.size ≤ M) (ho3 : w3.ownsRow (w.heap.size + 3) 38 8 (.slice a3 (j + 1) c3) (j + 1) (xs ++ tcells hd q2 l2 c2))
    (hg : (w2.alloc O).grownBy w3 (Value.slice a j c0).ownBlock) (hat : (Value.slice a3 (j + 1) c3).ownBlock = (Value.slice a j c0).ownBlock ∨ (Value.slice a3 (j + 1) c3).ownBlock = some (w2.alloc O).heap.size) :
    (w3.cell? ⟨w.heap.size + 2, 7, none⟩ = some (.slice a j c0) ∧ w3.frozen? ⟨w.heap.size + 2, 7, none⟩ = false) ∧ EraseAt w h v l (us ++ [u]) (j + 1) a3 c3 (w3.setCell ⟨w.heap.size + 2, 7, none⟩ (.slice a3 (j + 1) c3)) ∧ Below w.heap.size w w3 ∧ (∀ b, b < w.heap.size + 3 → w3.heap[b]? = W.heap[b]?) ∧ (∀ b, W.heap.size ≤ b → b < (w2.alloc O).heap.size → w3.heap[b]? = (w2.alloc O).heap[b]?) := by
  have hout := lt_of_block hA.out
  have hW2 := hb2.size
  have hsz : (w2.alloc O).heap.size = w2.heap.size + 1 := by simp
  have hge : ∀ g, (Value.slice a j c0).ownBlock = some g → w.heap.size + 3 ≤ g ∧ g < W.heap.size := fun g hgg => by
    obtain ⟨ys, h1, _⟩ := hA.row
    rw [hA.len] at h1
    exact h1.lt g hgg
  have hstay : ∀ b, b < w.heap.size + 3 → w3.heap[b]? = W.heap[b]? := fun b hb => by
    rw [hg.block b (by omega) (fun e => by have := hge b e.symm; omega)]
    exact ((box_new (w := w2) O).block b (by omega)).trans (hb2.block b (by omega))
  have hout3 := (hstay (w.heap.size + 2) (by omega)).trans hA.out
  have hoth : ∀ b, b ≠ w.heap.size + 2 → (w3.setCell ⟨w.heap.size + 2, 7, none⟩ (.slice a3 (j + 1) c3)).heap[b]? = w3.heap[b]? := fun b hb => Below.heap_setCell _ _ _ _ hb
  have hrow : RowM (w.heap.size + 3) (.slice a3 (j + 1) c3) (us ++ [u]) w3 := by
    have hlen := hA.len
    refine row_step (v := .slice a j c0) (W := w2.alloc O) (M := M) (hd := hd) (q := q2) (l := l2) (c := c2) (by rw [hlen]; exact ho) hf (hT.reads' (veil_to fun b hb hp => ⟨hp, (box_new (w := w2) O).block b hb⟩)) (by omega) (fun g hgg => by have := hge g hgg; omega) (by rw [hlen]; exact ho3) hg hat
  have hbel : Below w.heap.size w w3 := by
    have h1 : Below w.heap.size w (w2.alloc O) := below_then hA.below (hb2.alloc (by omega) O) hA.below.size
    exact h1.grown hg h1.size fun g hgg => by have := hge g hgg; omega
  refine ⟨⟨by simp [World.cell?, hout3], by simp [World.frozen?, hout3]⟩, ⟨hbel.setCell (p := ⟨w.heap.size + 2, 7, none⟩) (by show w.heap.size ≤ w.heap.size + 2; omega) _, ?_, ?_, ?_, hrow.off (fun b hb => hoth b (by omega)), by rw [List.length_append, hA.len]; rfl⟩, hbel, hstay, fun b h1 h2 => hg.block b h2 (fun e => by have := hge b e.symm; omega)⟩
  · exact (hoth _ (by omega)).trans ((hstay _ (by omega)).trans hA.box)
  · exact (hoth _ (by omega)).trans ((hstay _ (by omega)).trans hA.res)
  · simp [World.setCell, Array.getElem?_modify, hout3]
theorem bare_ok {h : Hd} (hk : Term.HdOk h.h) : Term.HdOk (bareH h) := by
  unfold bareH
  split
  · exact ⟨by show (0 : Int) ≤ 2 ∧ (2 : Int) ≤ 255; omega, hk.op, hk.pl, hk.n, hk.name, hk.arg, hk.exn⟩
  · exact hk
theorem bare_cells (h : Hd) (q : Option Addr) (l c : Nat) : (#[.int .u8 (bareH h).k, .int .u8 (bareH h).op, .int .i64 (bareH h).pl, .int .i64 (bareH h).n, .string (bareH h).name, .string (bareH h).arg, .string (bareH h).exn, .slice q l c] : Array Value) = #[.int .u8 (bareH h).k, .int .u8 h.h.op, .int .i64 h.h.pl, .int .i64 h.h.n, .string h.h.name, .string h.h.arg, .string h.h.exn, .slice q l c] := by
  unfold bareH
  split <;> rfl
/-- The end: in new memory alone. -/
theorem erase_end {w : World} {h : Hd} {v : V} {l : Nat} {us : List Tm} {j : Nat} {a : Option Addr} {c0 : Nat} {W W' : World} (hk : Term.HdOk h.h) (hA : EraseAt w h v l us j a c0 W) (hoth : ∀ b, b ≠ w.heap.size + 1 → W'.heap[b]? = W.heap[b]?) (hb : Below w.heap.size w W') :
    EraseEnd (.node (bareH h) us) w (.returned (.agg #[.int .u8 (bareH h).k, .int .u8 h.h.op, .int .i64 h.h.pl, .int .i64 h.h.n, .string h.h.name, .string h.h.arg, .string h.h.exn, .slice a j c0])) W' := by
  have hlen := hA.len
  have hsl : j ≤ c0 ∧ c0 ≤ maxLen := by
    obtain ⟨xs, h1, _⟩ := hA.row
    obtain ⟨a', c', he, hc1, hc2⟩ := own_cap h1
    injection he with e1 e2 e3
    subst e1 e3
    exact ⟨by rw [← hlen]; exact hc2, hc1⟩
  have hkk : Term.Kids (veil (from_ (w.heap.size + 3)) W) a us := by
    have := hA.row
    rw [← hlen] at this
    exact this.kids
  refine ⟨a, c0, ?_, ⟨rfl, rfl, bare_ok hk, ?_, hkk.reads' (veil_to fun b hbl hp => ?_)⟩, hb⟩
  · show _ = Ending.returned (.agg #[.int .u8 (bareH h).k, .int .u8 (bareH h).op, .int .i64 (bareH h).pl, .int .i64 (bareH h).n, .string (bareH h).name, .string (bareH h).arg, .string (bareH h).exn, .slice a us.length c0])
    rw [bare_cells, hlen]
  · show us.length ≤ c0 ∧ c0 ≤ maxLen
    rw [hlen]; exact hsl
  · have hp' : w.heap.size + 3 ≤ b := of_decide_eq_true hp
    exact ⟨decide_eq_true (by omega), hoth b (by omega)⟩
/-- A load of a term, as it runs. -/
theorem exec_at {op : Oper} {a : Act} {w : World} (x : Operand) (ho : op.op = .load 31 x) (b o : Nat) (hx : a.eval x = .pointer (some ⟨b, o, none⟩)) {h : Hd} {v : V} {l : Nat} (hr : w.rangeAt b o (acells h v l)) : (execOp a.eval op).run Tryz.prog w = .ok (.value (.agg #[.int .u8 h.h.k, .int .u8 h.h.op, .int .i64 h.h.pl, .int .i64 h.h.n, .string h.h.name, .string h.h.arg, .string h.h.exn, .int .i64 h.rho, .slice v.ra h.rhos.length v.rc, .slice v.ea h.e.length v.ec, .int .u8 h.ty.h.k, .int .i64 h.ty.h.r, .slice v.tea h.ty.h.e.length v.tec, .slice v.tka h.ty.ks.length v.tkc, .int .u8 h.re.h.k, .int .i64 h.re.h.r, .slice v.sea h.re.h.e.length v.sec, .slice v.ska h.re.ks.length v.skc, .slice v.ka l v.kc])) w := by
  unfold execOp
  simp only [ho, hx, Instr.loadAt, Instr.sureAddr, Sem.run_bind, Sem.run_pure, Result.andThen_ok, run_loadVar_mid w b o 31 (acells h v l) _ hr Tryz.underlying31 rfl atInfo]
theorem told_of {a0 : Option Addr} {j c0 n cap gg : Nat} {w2 : World} {O : Obj} (h : (Value.slice a0 j c0).ownBlock = some gg ∨ gg = w2.heap.size + 1) : (Value.slice (some ⟨gg, 0, none⟩) n cap).ownBlock = (Value.slice a0 j c0).ownBlock ∨ (Value.slice (some ⟨gg, 0, none⟩) n cap).ownBlock = some (w2.alloc O).heap.size := by
  rcases h with h | h
  · exact .inl (by rw [h]; rfl)
  · exact .inr (by rw [h]; simp [Value.ownBlock])
theorem undrew' {B : Nat} {w w2 : World} (h : Below B w.drew w2) : Below B w w2 := ⟨h.os, h.tape, h.output, h.size, h.block⟩
theorem new8 {w : World} {N : Nat} {h : Term.Hd} {q : Option Addr} {l c : Nat} {ty : TypeId} (hN : N = w.heap.size) (j : Nat) : ∀ u, (tcells h q l c)[j]? = some u → (w.alloc (.cells #[.int .u8 h.k, .int .u8 h.op, .int .i64 h.pl, .int .i64 h.n, .string h.name, .string h.arg, .string h.exn, .slice q l c] ty)).cell? ((⟨N, 0, none⟩ : Addr).add j) = some u := by
  intro u hu
  subst hN
  rw [Addr.add_lit, Nat.zero_add, World.cell?_alloc_mark]
  simpa [tcells] using hu
theorem cells_one8 (h : Term.Hd) (q : Option Addr) (l c : Nat) : ∀ u ∈ tcells h q l c, u.oneCell' = true := by
  intro u hu
  simp [tcells] at hu
  rcases hu with rfl | rfl | rfl | rfl | rfl | rfl | rfl | rfl <;> rfl
theorem set8_other (W : World) (N : Nat) (a b c d e f g i : Value) {k : Nat} (hk : k ≠ N) : ((((((((W.setCell ⟨N, 0, none⟩ a).setCell ⟨N, 1, none⟩ b).setCell ⟨N, 2, none⟩ c).setCell ⟨N, 3, none⟩ d).setCell ⟨N, 4, none⟩ e).setCell ⟨N, 5, none⟩ f).setCell ⟨N, 6, none⟩ g).setCell ⟨N, 7, none⟩ i).heap[k]? = W.heap[k]? := by
  rw [Below.heap_setCell _ _ _ _ hk, Below.heap_setCell _ _ _ _ hk, Below.heap_setCell _ _ _ _ hk, Below.heap_setCell _ _ _ _ hk, Below.heap_setCell _ _ _ _ hk, Below.heap_setCell _ _ _ _ hk, Below.heap_setCell _ _ _ _ hk, Below.heap_setCell _ _ _ _ hk]
theorem set8_below {B N : Nat} {W : World} (a b c d e f g i : Value) (hN : B ≤ N) : Below B W ((((((((W.setCell ⟨N, 0, none⟩ a).setCell ⟨N, 1, none⟩ b).setCell ⟨N, 2, none⟩ c).setCell ⟨N, 3, none⟩ d).setCell ⟨N, 4, none⟩ e).setCell ⟨N, 5, none⟩ f).setCell ⟨N, 6, none⟩ g).setCell ⟨N, 7, none⟩ i) :=
  (((((((((Below.refl B W).setCell (p := ⟨N, 0, none⟩) hN _).setCell (p := ⟨N, 1, none⟩) hN _).setCell (p := ⟨N, 2, none⟩) hN _).setCell (p := ⟨N, 3, none⟩) hN _).setCell (p := ⟨N, 4, none⟩) hN _).setCell (p := ⟨N, 5, none⟩) hN _).setCell (p := ⟨N, 6, none⟩) hN _).setCell (p := ⟨N, 7, none⟩) hN _)
end Aterm
end Go.Proofs.YtolpdhkgkjnbfaaGreatDoor
