/-A term that is made of a term with regions: what memory holds on the way. (Written by wip/tools/aterase.py.) The program's Binds of terms with regions. (Written by wip/tools/atbindsp.py.) The walks of the document's EqualInts, both ways, and of what is in a row of kinds. As AtInts, for longer rows: the walks of the document's EqualInts, both ways, and of what is in a row of kinds. The program's way through all nodes of terms with regions: the walk, with the closure of May. (Written by wip/tools/atfold.py.) -/
import Derived.Test.YtolpdhkgkjnbfaaDoorGC06
import Derived.Deep.RegionLaw
import Derived.Deep.AppendLies
import Derived.Deep.RegionHeld3
import Derived.Test.YtolpdhkgkjnbfaaDoorGC04
import Derived.Test.YtolpdhkgkjnbfaaDoorGC03
namespace Go.Proofs.YtolpdhkgkjnbfaaDoor
open Go.RowKit
set_option linter.unusedVariables false
set_option linter.unusedSimpArgs false
namespace Aterm
open Effect (lt_of_block heap_alloc_new)
open Rt (box_new box_at below_then)
open Term (Tm TmIs Reads veil veil_to veil_at tcells)

def from_ (M : Nat) (i : Nat) : Bool := decide (M ≤ i)
/-- From block B on, but the row's own. -/
def seen (B : Nat) (v : Value) (i : Nat) : Bool := decide (B ≤ i ∧ v.ownBlock ≠ some i)
theorem seen_iff {B : Nat} {v : Value} {i : Nat} : seen B v i = true ↔ B ≤ i ∧ v.ownBlock ≠ some i := by unfold seen; exact decide_eq_true_iff
/-- A row of terms that grows: its cells, and its terms' kids, which lie in none of these. -/
def RowM (B : Nat) (v : Value) (ts : List Tm) (W : World) : Prop := ∃ xs, W.ownsRow B 44 8 v ts.length xs ∧ Term.Flat (veil (seen B v) W) xs ts
theorem RowM.nil (B : Nat) (W : World) : RowM B (.slice none 0 0) [] W := ⟨[], World.ownsRow_nil _ _ _ _, rfl⟩
theorem RowM.below {B : Nat} {v : Value} {ts : List Tm} {W W' : World} (h : RowM B v ts W) (hb : Below W.heap.size W W') : RowM B v ts W' := by
  obtain ⟨xs, h1, h2⟩ := h
  exact ⟨xs, own_below h1 hb, h2.reads (veil_to fun b hbl hp => ⟨hp, hb.block b hbl⟩)⟩
theorem own_cap {w : World} {base e size n : Nat} {v : Value} {xs : List Value} (h : w.ownsRow base e size v n xs) : ∃ a c, v = .slice a n c ∧ c ≤ maxLen ∧ n ≤ c := by
  rcases h.2 with ⟨hv, h0⟩ | ⟨g, cap, _, hv, _, _, h1, h2, _⟩
  · subst h0; exact ⟨none, 0, hv, by unfold maxLen; omega, Nat.le_refl _⟩
  · exact ⟨_, cap, hv, h2, h1⟩
/-- One term more. -/
theorem row_step {B M : Nat} {v v' : Value} {W W3 : World} {ts : List Tm} {xs : List Value} {t : Tm} {hd : Term.Hd} {q : Option Addr} {l c : Nat}
    (ho : W.ownsRow B 44 8 v ts.length xs) (hf : Term.Flat (veil (seen B v) W) xs ts) (hT : TmIs (veil (from_ M) W) hd q l c t) (hM : B ≤ M) (hg : ∀ g, v.ownBlock = some g → g < M)
    (ho3 : W3.ownsRow B 44 8 v' (ts.length + 1) (xs ++ tcells hd q l c)) (hgr : W.grownBy W3 v.ownBlock) (hat : v'.ownBlock = v.ownBlock ∨ v'.ownBlock = some W.heap.size) : RowM B v' (ts ++ [t]) W3 := by
  refine ⟨xs ++ tcells hd q l c, by rw [List.length_append]; exact ho3, ?_⟩
  have key : ∀ b, b < W.heap.size → B ≤ b → v.ownBlock ≠ some b → seen B v' b = true ∧ W3.heap[b]? = W.heap[b]? := fun b hb h1 h2 => by
    refine ⟨seen_iff.2 ⟨h1, ?_⟩, hgr.block b hb (fun e => h2 e.symm)⟩
    rcases hat with e | e <;> rw [e]
    · exact h2
    · intro e2; injection e2 with e2; omega
  refine (hf.reads (veil_to fun b hb hp => ?_)).append (Term.Flat.one (hT.reads' (veil_to fun b hb hp => ?_)))
  · obtain ⟨h1, h2⟩ := seen_iff.1 hp
    exact key b hb h1 h2
  · have h1 : M ≤ b := of_decide_eq_true hp
    exact key b hb (by omega) (fun e => by have := hg b e; omega)
theorem RowM.kids {B : Nat} {a : Option Addr} {c : Nat} {ts : List Tm} {W : World} (h : RowM B (.slice a ts.length c) ts W) : Term.Kids (veil (from_ B) W) a ts := by
  obtain ⟨xs, h1, h2⟩ := h
  by_cases h0 : ts.length = 0
  · rw [List.length_eq_zero_iff.1 h0]; exact .nokids _
  · have hat : ∃ g, a = some ⟨g, 0, none⟩ ∧ B ≤ g := by
      rcases h1.2 with ⟨_, h0'⟩ | ⟨g, cap, _, hv, hg, _⟩
      · omega
      · injection hv with hv; exact ⟨g, hv, hg⟩
    obtain ⟨g, rfl, hg⟩ := hat
    have hin : Reads (veil (seen B (.slice (some ⟨g, 0, none⟩) ts.length c)) W) (veil (from_ B) W) := veil_to fun b hb hp => ⟨decide_eq_true (seen_iff.1 hp).1, rfl⟩
    refine Term.kids_of_flat (fun j u hu => ?_) (h2.reads hin)
    have hc := h1.cells (g := g) rfl j u hu
    rw [Addr.add_lit, Nat.zero_add] at hc
    rw [World.cell?_of_block (veil_at (decide_eq_true hg))]
    exact hc
theorem RowM.off {B : Nat} {v : Value} {ts : List Tm} {W W' : World} (h : RowM B v ts W) (hb : ∀ b, B ≤ b → W'.heap[b]? = W.heap[b]?) : RowM B v ts W' := by
  obtain ⟨xs, h1, h2⟩ := h
  refine ⟨xs, ⟨h1.1, h1.2.imp id ?_⟩, h2.reads (veil_to fun b hbl hp => ⟨hp, hb b (seen_iff.1 hp).1⟩)⟩
  rintro ⟨g, cap, cur, rfl, hg, hh, r⟩
  exact ⟨g, cap, cur, rfl, hg, (hb g hg).trans hh, r⟩

/-- How it ends: a term in new memory alone. -/
def EraseEnd (r : Tm) (w : World) (e : Ending) (w' : World) : Prop :=
  ∃ q c, e = .returned (.agg #[.int .u8 r.h.k, .int .u8 r.h.op, .int .i64 r.h.pl, .int .i64 r.h.n, .string r.h.name, .string r.h.arg, .string r.h.exn, .slice q r.ks.length c]) ∧ TmIs (veil (from_ w.heap.size) w') r.h q r.ks.length c r ∧ Below w.heap.size w w'
/-- The terms made so far, in a row of one's own; the boxes: what is read, the result, what is made. -/
structure EraseAt (w : World) (h : Hd) (v : V) (l : Nat) (us : List Tm) (j : Nat) (a : Option Addr) (c0 : Nat) (W : World) : Prop where
  below : Below w.heap.size w W
  box : W.heap[w.heap.size]? = some (.cells #[.int .u8 h.h.k, .int .u8 h.h.op, .int .i64 h.h.pl, .int .i64 h.h.n, .string h.h.name, .string h.h.arg, .string h.h.exn, .int .i64 h.rho, .slice v.ra h.rhos.length v.rc, .slice v.ea h.e.length v.ec, .int .u8 h.ty.h.k, .int .i64 h.ty.h.r, .slice v.tea h.ty.h.e.length v.tec, .slice v.tka h.ty.ks.length v.tkc, .int .u8 h.re.h.k, .int .i64 h.re.h.r, .slice v.sea h.re.h.e.length v.sec, .slice v.ska h.re.ks.length v.skc, .slice v.ka l v.kc] 33 (0, 0))
  res : W.heap[w.heap.size + 1]? = some (.cells #[.int .u8 0, .int .u8 0, .int .i64 0, .int .i64 0, .string ⟨#[]⟩, .string ⟨#[]⟩, .string ⟨#[]⟩, .slice none 0 0] 44 (0, 0))
  out : W.heap[w.heap.size + 2]? = some (.cells #[.int .u8 (bareH h).k, .int .u8 h.h.op, .int .i64 h.h.pl, .int .i64 h.h.n, .string h.h.name, .string h.h.arg, .string h.h.exn, .slice a j c0] 44 (0, 0))
  row : RowM (w.heap.size + 3) (.slice a j c0) us W
  len : us.length = j
/-- A box, of its block. -/
theorem box_blk {W : World} {N : Nat} {h : Hd} {v : V} {l : Nat} {ty : TypeId} (hb : W.heap[N]? = some (.cells #[.int .u8 h.h.k, .int .u8 h.h.op, .int .i64 h.h.pl, .int .i64 h.h.n, .string h.h.name, .string h.h.arg, .string h.h.exn, .int .i64 h.rho, .slice v.ra h.rhos.length v.rc, .slice v.ea h.e.length v.ec, .int .u8 h.ty.h.k, .int .i64 h.ty.h.r, .slice v.tea h.ty.h.e.length v.tec, .slice v.tka h.ty.ks.length v.tkc, .int .u8 h.re.h.k, .int .i64 h.re.h.r, .slice v.sea h.re.h.e.length v.sec, .slice v.ska h.re.ks.length v.skc, .slice v.ka l v.kc] ty (0, 0))) : Box W N h v l := by
  unfold Box
  simp [World.cell?, hb]
theorem erase_start (w : World) (h : Hd) (v : V) (l : Nat) : EraseAt w h v l [] 0 none 0 (((w.alloc (.cells #[.int .u8 h.h.k, .int .u8 h.h.op, .int .i64 h.h.pl, .int .i64 h.h.n, .string h.h.name, .string h.h.arg, .string h.h.exn, .int .i64 h.rho, .slice v.ra h.rhos.length v.rc, .slice v.ea h.e.length v.ec, .int .u8 h.ty.h.k, .int .i64 h.ty.h.r, .slice v.tea h.ty.h.e.length v.tec, .slice v.tka h.ty.ks.length v.tkc, .int .u8 h.re.h.k, .int .i64 h.re.h.r, .slice v.sea h.re.h.e.length v.sec, .slice v.ska h.re.ks.length v.skc, .slice v.ka l v.kc] 33)).alloc (.cells #[.int .u8 0, .int .u8 0, .int .i64 0, .int .i64 0, .string ⟨#[]⟩, .string ⟨#[]⟩, .string ⟨#[]⟩, .slice none 0 0] 44)).alloc (.cells #[.int .u8 (bareH h).k, .int .u8 h.h.op, .int .i64 h.h.pl, .int .i64 h.h.n, .string h.h.name, .string h.h.arg, .string h.h.exn, .slice none 0 0] 44)) := by
  have n1 := heap_alloc_new w (.cells #[.int .u8 h.h.k, .int .u8 h.h.op, .int .i64 h.h.pl, .int .i64 h.h.n, .string h.h.name, .string h.h.arg, .string h.h.exn, .int .i64 h.rho, .slice v.ra h.rhos.length v.rc, .slice v.ea h.e.length v.ec, .int .u8 h.ty.h.k, .int .i64 h.ty.h.r, .slice v.tea h.ty.h.e.length v.tec, .slice v.tka h.ty.ks.length v.tkc, .int .u8 h.re.h.k, .int .i64 h.re.h.r, .slice v.sea h.re.h.e.length v.sec, .slice v.ska h.re.ks.length v.skc, .slice v.ka l v.kc] 33)
  have n2 := heap_alloc_new (w.alloc (.cells #[.int .u8 h.h.k, .int .u8 h.h.op, .int .i64 h.h.pl, .int .i64 h.h.n, .string h.h.name, .string h.h.arg, .string h.h.exn, .int .i64 h.rho, .slice v.ra h.rhos.length v.rc, .slice v.ea h.e.length v.ec, .int .u8 h.ty.h.k, .int .i64 h.ty.h.r, .slice v.tea h.ty.h.e.length v.tec, .slice v.tka h.ty.ks.length v.tkc, .int .u8 h.re.h.k, .int .i64 h.re.h.r, .slice v.sea h.re.h.e.length v.sec, .slice v.ska h.re.ks.length v.skc, .slice v.ka l v.kc] 33)) (.cells #[.int .u8 0, .int .u8 0, .int .i64 0, .int .i64 0, .string ⟨#[]⟩, .string ⟨#[]⟩, .string ⟨#[]⟩, .slice none 0 0] 44)
  have n3 := heap_alloc_new ((w.alloc (.cells #[.int .u8 h.h.k, .int .u8 h.h.op, .int .i64 h.h.pl, .int .i64 h.h.n, .string h.h.name, .string h.h.arg, .string h.h.exn, .int .i64 h.rho, .slice v.ra h.rhos.length v.rc, .slice v.ea h.e.length v.ec, .int .u8 h.ty.h.k, .int .i64 h.ty.h.r, .slice v.tea h.ty.h.e.length v.tec, .slice v.tka h.ty.ks.length v.tkc, .int .u8 h.re.h.k, .int .i64 h.re.h.r, .slice v.sea h.re.h.e.length v.sec, .slice v.ska h.re.ks.length v.skc, .slice v.ka l v.kc] 33)).alloc (.cells #[.int .u8 0, .int .u8 0, .int .i64 0, .int .i64 0, .string ⟨#[]⟩, .string ⟨#[]⟩, .string ⟨#[]⟩, .slice none 0 0] 44)) (.cells #[.int .u8 (bareH h).k, .int .u8 h.h.op, .int .i64 h.h.pl, .int .i64 h.h.n, .string h.h.name, .string h.h.arg, .string h.h.exn, .slice none 0 0] 44)
  generalize hO : (Obj.cells #[.int .u8 h.h.k, .int .u8 h.h.op, .int .i64 h.h.pl, .int .i64 h.h.n, .string h.h.name, .string h.h.arg, .string h.h.exn, .int .i64 h.rho, .slice v.ra h.rhos.length v.rc, .slice v.ea h.e.length v.ec, .int .u8 h.ty.h.k, .int .i64 h.ty.h.r, .slice v.tea h.ty.h.e.length v.tec, .slice v.tka h.ty.ks.length v.tkc, .int .u8 h.re.h.k, .int .i64 h.re.h.r, .slice v.sea h.re.h.e.length v.sec, .slice v.ska h.re.ks.length v.skc, .slice v.ka l v.kc] 33) = O at *
  generalize hO2 : (Obj.cells #[.int .u8 0, .int .u8 0, .int .i64 0, .int .i64 0, .string ⟨#[]⟩, .string ⟨#[]⟩, .string ⟨#[]⟩, .slice none 0 0] 44) = O2 at *
  generalize hO3 : (Obj.cells #[.int .u8 (bareH h).k, .int .u8 h.h.op, .int .i64 h.h.pl, .int .i64 h.h.n, .string h.h.name, .string h.h.arg, .string h.h.exn, .slice none 0 0] 44) = O3 at *
  have s1 : (w.alloc O).heap.size = w.heap.size + 1 := by simp
  have s2 : ((w.alloc O).alloc O2).heap.size = w.heap.size + 2 := by simp
  rw [s1] at n2
  rw [s2] at n3
  refine ⟨(box_new _).trans (((box_new _).trans ((box_new _).mono (by simp))).mono (by simp)), ?_, ?_, ?_, RowM.nil _ _, rfl⟩
  · rw [hO]; exact ((box_new _).block _ (by omega)).trans (((box_new _).block _ (by omega)).trans n1)
  · rw [hO2]; exact ((box_new _).block _ (by omega)).trans n2
  · rw [hO3]; exact n3
/-- One more. -/
theorem erase_step {w : World} {h : Hd} {v : V} {l : Nat} {us : List Tm} {j : Nat} {a : Option Addr} {c0 : Nat} {W w2 w3 : World} {xs : List Value} {hd : Term.Hd} {q2 : Option Addr} {l2 c2 M : Nat} {u : Tm} {O : Obj} {a3 : Option Addr} {c3 : Nat}
    (hA : EraseAt w h v l us j a c0 W) (hb2 : Below W.heap.size W w2) (ho : (w2.alloc O).ownsRow (w.heap.size + 3) 44 8 (.slice a j c0) j xs) (hf : Term.Flat (veil (seen (w.heap.size + 3) (.slice a j c0)) (w2.alloc O)) xs us)
    (hT : TmIs (veil (from_ M) w2) hd q2 l2 c2 u) (hM : W.heap.size ≤ M) (ho3 : w3.ownsRow (w.heap.size + 3) 44 8 (.slice a3 (j + 1) c3) (j + 1) (xs ++ tcells hd q2 l2 c2))
    (hg : (w2.alloc O).grownBy w3 (Value.slice a j c0).ownBlock) (hat : (Value.slice a3 (j + 1) c3).ownBlock = (Value.slice a j c0).ownBlock ∨ (Value.slice a3 (j + 1) c3).ownBlock = some (w2.alloc O).heap.size) :
    (w3.cell? ⟨w.heap.size + 2, 7, none⟩ = some (.slice a j c0) ∧ w3.frozen? ⟨w.heap.size + 2, 7, none⟩ = false) ∧ EraseAt w h v l (us ++ [u]) (j + 1) a3 c3 (w3.setCell ⟨w.heap.size + 2, 7, none⟩ (.slice a3 (j + 1) c3)) ∧ Below w.heap.size w w3 ∧ (∀ b, b < w.heap.size + 3 → w3.heap[b]? = W.heap[b]?) ∧ (∀ b, W.heap.size ≤ b → b < (w2.alloc O).heap.size → w3.heap[b]? = (w2.alloc O).heap[b]?) := by
  have hout := lt_of_block hA.out
  have hW2 := hb2.size
  have hsz : (w2.alloc O).heap.size = w2.heap.size + 1 := by simp
  have hge : ∀ g, (Value.slice a j c0).ownBlock = some g → w.heap.size + 3 ≤ g ∧ g < W.heap.size := fun g hgg => by
    obtain ⟨ys, h1, _⟩ := hA.row
    rw [hA.len] at h1
    exact h1.lt g hgg
  have hstay : ∀ b, b < w.heap.size + 3 → w3.heap[b]? = W.heap[b]? := fun b hb => by
    rw [hg.block b (by omega) (fun e => by have := hge b e.symm; omega)]
    exact ((box_new (w := w2) O).block b (by omega)).trans (hb2.block b (by omega))
  have hout3 := (hstay (w.heap.size + 2) (by omega)).trans hA.out
  have hoth : ∀ b, b ≠ w.heap.size + 2 → (w3.setCell ⟨w.heap.size + 2, 7, none⟩ (.slice a3 (j + 1) c3)).heap[b]? = w3.heap[b]? := fun b hb => Below.heap_setCell _ _ _ _ hb
  have hrow : RowM (w.heap.size + 3) (.slice a3 (j + 1) c3) (us ++ [u]) w3 := by
    have hlen := hA.len
    refine row_step (v := .slice a j c0) (W := w2.alloc O) (M := M) (hd := hd) (q := q2) (l := l2) (c := c2) (by rw [hlen]; exact ho) hf (hT.reads' (veil_to fun b hb hp => ⟨hp, (box_new (w := w2) O).block b hb⟩)) (by omega) (fun g hgg => by have := hge g hgg; omega) (by rw [hlen]; exact ho3) hg hat
  have hbel : Below w.heap.size w w3 := by
    have h1 : Below w.heap.size w (w2.alloc O) := below_then hA.below (hb2.alloc (by omega) O) hA.below.size
    exact h1.grown hg h1.size fun g hgg => by have := hge g hgg; omega
  refine ⟨⟨by simp [World.cell?, hout3], by simp [World.frozen?, hout3]⟩, ⟨hbel.setCell (p := ⟨w.heap.size + 2, 7, none⟩) (by show w.heap.size ≤ w.heap.size + 2; omega) _, ?_, ?_, ?_, hrow.off (fun b hb => hoth b (by omega)), by rw [List.length_append, hA.len]; rfl⟩, hbel, hstay, fun b h1 h2 => hg.block b h2 (fun e => by have := hge b e.symm; omega)⟩
  · exact (hoth _ (by omega)).trans ((hstay _ (by omega)).trans hA.box)
  · exact (hoth _ (by omega)).trans ((hstay _ (by omega)).trans hA.res)
  · simp [World.setCell, Array.getElem?_modify, hout3]
theorem bare_ok {h : Hd} (hk : Term.HdOk h.h) : Term.HdOk (bareH h) := by
  unfold bareH
  split
  · exact ⟨by show (0 : Int) ≤ 2 ∧ (2 : Int) ≤ 255; omega, hk.op, hk.pl, hk.n, hk.name, hk.arg, hk.exn⟩
  · exact hk
theorem bare_cells (h : Hd) (q : Option Addr) (l c : Nat) : (#[.int .u8 (bareH h).k, .int .u8 (bareH h).op, .int .i64 (bareH h).pl, .int .i64 (bareH h).n, .string (bareH h).name, .string (bareH h).arg, .string (bareH h).exn, .slice q l c] : Array Value) = #[.int .u8 (bareH h).k, .int .u8 h.h.op, .int .i64 h.h.pl, .int .i64 h.h.n, .string h.h.name, .string h.h.arg, .string h.h.exn, .slice q l c] := by
  unfold bareH
  split <;> rfl
/-- The end: in new memory alone. -/
theorem erase_end {w : World} {h : Hd} {v : V} {l : Nat} {us : List Tm} {j : Nat} {a : Option Addr} {c0 : Nat} {W W' : World} (hk : Term.HdOk h.h) (hA : EraseAt w h v l us j a c0 W) (hoth : ∀ b, b ≠ w.heap.size + 1 → W'.heap[b]? = W.heap[b]?) (hb : Below w.heap.size w W') :
    EraseEnd (.node (bareH h) us) w (.returned (.agg #[.int .u8 (bareH h).k, .int .u8 h.h.op, .int .i64 h.h.pl, .int .i64 h.h.n, .string h.h.name, .string h.h.arg, .string h.h.exn, .slice a j c0])) W' := by
  have hlen := hA.len
  have hsl : j ≤ c0 ∧ c0 ≤ maxLen := by
    obtain ⟨xs, h1, _⟩ := hA.row
    obtain ⟨a', c', he, hc1, hc2⟩ := own_cap h1
    injection he with e1 e2 e3
    subst e1 e3
    exact ⟨by rw [← hlen]; exact hc2, hc1⟩
  have hkk : Term.Kids (veil (from_ (w.heap.size + 3)) W) a us := by
    have := hA.row
    rw [← hlen] at this
    exact this.kids
  refine ⟨a, c0, ?_, ⟨rfl, rfl, bare_ok hk, ?_, hkk.reads' (veil_to fun b hbl hp => ?_)⟩, hb⟩
  · show _ = Ending.returned (.agg #[.int .u8 (bareH h).k, .int .u8 (bareH h).op, .int .i64 (bareH h).pl, .int .i64 (bareH h).n, .string (bareH h).name, .string (bareH h).arg, .string (bareH h).exn, .slice a us.length c0])
    rw [bare_cells, hlen]
  · show us.length ≤ c0 ∧ c0 ≤ maxLen
    rw [hlen]; exact hsl
  · have hp' : w.heap.size + 3 ≤ b := of_decide_eq_true hp
    exact ⟨decide_eq_true (by omega), hoth b (by omega)⟩
/-- A load of a term, as it runs. -/
theorem exec_at {op : Oper} {a : Act} {w : World} (x : Operand) (ho : op.op = .load 33 x) (b o : Nat) (hx : a.eval x = .pointer (some ⟨b, o, none⟩)) {h : Hd} {v : V} {l : Nat} (hr : w.rangeAt b o (acells h v l)) : (execOp a.eval op).run Tryd.prog w = .ok (.value (.agg #[.int .u8 h.h.k, .int .u8 h.h.op, .int .i64 h.h.pl, .int .i64 h.h.n, .string h.h.name, .string h.h.arg, .string h.h.exn, .int .i64 h.rho, .slice v.ra h.rhos.length v.rc, .slice v.ea h.e.length v.ec, .int .u8 h.ty.h.k, .int .i64 h.ty.h.r, .slice v.tea h.ty.h.e.length v.tec, .slice v.tka h.ty.ks.length v.tkc, .int .u8 h.re.h.k, .int .i64 h.re.h.r, .slice v.sea h.re.h.e.length v.sec, .slice v.ska h.re.ks.length v.skc, .slice v.ka l v.kc])) w := by
  unfold execOp
  simp only [ho, hx, Instr.loadAt, Instr.sureAddr, Sem.run_bind, Sem.run_pure, Result.andThen_ok, run_loadVar_mid w b o 33 (acells h v l) _ hr Tryd.underlying33 rfl atInfo]
theorem told_of {a0 : Option Addr} {j c0 n cap gg : Nat} {w2 : World} {O : Obj} (h : (Value.slice a0 j c0).ownBlock = some gg ∨ gg = w2.heap.size + 1) : (Value.slice (some ⟨gg, 0, none⟩) n cap).ownBlock = (Value.slice a0 j c0).ownBlock ∨ (Value.slice (some ⟨gg, 0, none⟩) n cap).ownBlock = some (w2.alloc O).heap.size := by
  rcases h with h | h
  · exact .inl (by rw [h]; rfl)
  · exact .inr (by rw [h]; simp [Value.ownBlock])
theorem undrew' {B : Nat} {w w2 : World} (h : Below B w.drew w2) : Below B w w2 := ⟨h.os, h.tape, h.output, h.size, h.block⟩
theorem new8 {w : World} {N : Nat} {h : Term.Hd} {q : Option Addr} {l c : Nat} {ty : TypeId} (hN : N = w.heap.size) (j : Nat) : ∀ u, (tcells h q l c)[j]? = some u → (w.alloc (.cells #[.int .u8 h.k, .int .u8 h.op, .int .i64 h.pl, .int .i64 h.n, .string h.name, .string h.arg, .string h.exn, .slice q l c] ty)).cell? ((⟨N, 0, none⟩ : Addr).add j) = some u := by
  intro u hu
  subst hN
  rw [Addr.add_lit, Nat.zero_add, World.cell?_alloc_mark]
  simpa [tcells] using hu
theorem cells_one8 (h : Term.Hd) (q : Option Addr) (l c : Nat) : ∀ u ∈ tcells h q l c, u.oneCell' = true := by
  intro u hu
  simp [tcells] at hu
  rcases hu with rfl | rfl | rfl | rfl | rfl | rfl | rfl | rfl <;> rfl
theorem set8_other (W : World) (N : Nat) (a b c d e f g i : Value) {k : Nat} (hk : k ≠ N) : ((((((((W.setCell ⟨N, 0, none⟩ a).setCell ⟨N, 1, none⟩ b).setCell ⟨N, 2, none⟩ c).setCell ⟨N, 3, none⟩ d).setCell ⟨N, 4, none⟩ e).setCell ⟨N, 5, none⟩ f).setCell ⟨N, 6, none⟩ g).setCell ⟨N, 7, none⟩ i).heap[k]? = W.heap[k]? := by
  rw [Below.heap_setCell _ _ _ _ hk, Below.heap_setCell _ _ _ _ hk, Below.heap_setCell _ _ _ _ hk, Below.heap_setCell _ _ _ _ hk, Below.heap_setCell _ _ _ _ hk, Below.heap_setCell _ _ _ _ hk, Below.heap_setCell _ _ _ _ hk, Below.heap_setCell _ _ _ _ hk]
theorem set8_below {B N : Nat} {W : World} (a b c d e f g i : Value) (hN : B ≤ N) : Below B W ((((((((W.setCell ⟨N, 0, none⟩ a).setCell ⟨N, 1, none⟩ b).setCell ⟨N, 2, none⟩ c).setCell ⟨N, 3, none⟩ d).setCell ⟨N, 4, none⟩ e).setCell ⟨N, 5, none⟩ f).setCell ⟨N, 6, none⟩ g).setCell ⟨N, 7, none⟩ i) :=
  (((((((((Below.refl B W).setCell (p := ⟨N, 0, none⟩) hN _).setCell (p := ⟨N, 1, none⟩) hN _).setCell (p := ⟨N, 2, none⟩) hN _).setCell (p := ⟨N, 3, none⟩) hN _).setCell (p := ⟨N, 4, none⟩) hN _).setCell (p := ⟨N, 5, none⟩) hN _).setCell (p := ⟨N, 6, none⟩) hN _).setCell (p := ⟨N, 7, none⟩) hN _)
end Aterm
end Go.Proofs.YtolpdhkgkjnbfaaDoor
namespace Go.Proofs.YtolpdhkgkjnbfaaDoor
open Go.RowKit
set_option linter.unusedVariables false
set_option linter.unusedSimpArgs false
namespace Aterm
open Effect (RdI nget nget_at nget_mem ret_bool ret_i64 lt_of_block heap_alloc_new ofA Ixs intsV own_slice)
open Rt (box_new box_at below_then)

/-- An append that is known, in a region that draws. -/
theorem step_append_made {P : Program} {w w' : World} {ops : Array Oper} {o : Oper} {a : Act} {K : Act → World → Prop} {Q : Exit → Act → World → Prop} {E : Prop} (hgd : o.guard = none) (s x : Operand) (t t2 : TypeId)
    (ho : o.op = .call { callee := .builtin .append, args := #[s, x], argTypes := #[t, t2] }) (v xv r : Value) (hs : a.eval s = v) (hx : a.eval x = xv)
    (hr : ∀ ty, (Builtin.append_ #[t, t2] ty #[v, xv]).run P w = .ok r w') (h : K (a.put o.dst r) w') : if Region.wanted o (yielded ops a.tmps) = true then Oper.wp P o a w K Q else E := by
  have hw : Region.wanted o (yielded ops a.tmps) = true := by simp [Region.wanted, hgd]
  rw [if_pos hw]
  unfold Oper.wp execOp
  simp only [ho, resolve, invoke, builtin, Sem.run_bind, Sem.run_pure, Result.andThen_ok, List.map_toArray, List.map_cons, List.map_nil, hs, hx, hr]
  exact h

/-- What is bound so far: its box, the row that it shows, and the function's box. -/
structure BiAt (w0 : World) (N E B : Nat) (R : List Int) (W : World) : Prop where
  box : ∃ a m c, W.heap[N]? = some (.cells #[.slice a m c] 24 (0, 0)) ∧ Ixs B W (.slice a m c) m R ∧ m = R.length
  fn : W.heap[E]? = some (fnBox 26 N)
  ne : E ≠ N
  low : w0.heap.size ≤ N
  hN : N < B
  hE : E < B
  hB : B ≤ E + 1
def BiP (N B : Nat) (k : Nat) (O : Option Obj) : Prop := k = N ∨ (B ≤ k ∧ ∃ cs fz, O = some (.cells cs 3 fz))
theorem BiAt.below {w0 : World} {N E B : Nat} {R : List Int} {W W' : World} (h : BiAt w0 N E B R W) (hb : Below W.heap.size W W') : BiAt w0 N E B R W' := by
  obtain ⟨a, m, c, h1, h2, h3⟩ := h.box
  exact ⟨⟨a, m, c, (hb.block N (lt_of_block h1)).trans h1, own_below h2 hb, h3⟩, (hb.block E (lt_of_block h.fn)).trans h.fn, h.ne, h.low, h.hN, h.hE, h.hB⟩
theorem ixs_own {B m g : Nat} {W : World} {v : Value} {l : List Int} (h : Ixs B W v m l) (hg : v.ownBlock = some g) : B ≤ g ∧ ∃ cs fz, W.heap[g]? = some (.cells cs 3 fz) := by
  rcases h.2 with ⟨rfl, _⟩ | ⟨k, cap, cur', rfl, hk0, hk, _⟩
  · simp [Value.ownBlock] at hg
  · simp [Value.ownBlock] at hg
    subst hg
    exact ⟨hk0, _, _, hk⟩
/-- An append and the store behind it. -/
theorem BiAt.step {w0 : World} {N E B m c n c' : Nat} {a a' : Option Addr} {R K : List Int} {W W' : World} (h : BiAt w0 N E B R W) (hi : Ixs B W (.slice a m c) m R) (hm : m = R.length) (hn : n = K.length) (hi' : Ixs B W' (.slice a' (m + n) c') (m + n) (R ++ K)) (hg : W.grownBy W' (Value.slice a m c).ownBlock) :
    BiAt w0 N E B (R ++ K) (W'.setCell ⟨N, 0, none⟩ (.slice a' (m + n) c')) ∧ Tch (BiP N B) W (W'.setCell ⟨N, 0, none⟩ (.slice a' (m + n) c')) ∧ (∃ x, W'.heap[N]? = some (.cells #[x] 24 (0, 0))) ∧ ∀ k, k < B → W'.heap[k]? = W'.heap[k]? ∧ (k < W.heap.size → W'.heap[k]? = W.heap[k]?) := by
  obtain ⟨a1, m1, c1, hb, -, -⟩ := h.box
  have hst : ∀ k, k < B → k < W.heap.size → W'.heap[k]? = W.heap[k]? := fun k hk hk2 => hg.block k hk2 (fun e => by have := (ixs_own hi e.symm).1; omega)
  have hN' := (hst N h.hN (lt_of_block hb)).trans hb
  have hoth : ∀ k, k ≠ N → (W'.setCell ⟨N, 0, none⟩ (.slice a' (m + n) c')).heap[k]? = W'.heap[k]? := fun k hk => Below.heap_setCell _ _ _ _ hk
  refine ⟨⟨⟨a', m + n, c', by simp [World.setCell, Array.getElem?_modify, hN'], ownsRow_setCell_below hi' (a := ⟨N, 0, none⟩) (by show N < B; exact h.hN) _, by rw [List.length_append]; omega⟩, (hoth _ h.ne).trans ((hst E h.hE (lt_of_block h.fn)).trans h.fn), h.ne, h.low, h.hN, h.hE, h.hB⟩, ⟨hg.os, hg.tape, hg.output, by simp [World.setCell]; exact hg.size, ?_⟩, ⟨_, hN'⟩, fun k hk => ⟨rfl, hst k hk⟩⟩
  intro k hk hnp
  have hkN : k ≠ N := fun e => hnp (.inl e)
  rw [hoth k hkN]
  refine hg.block k hk (fun e => hnp (.inr ?_))
  obtain ⟨h1, cs, fz, h2⟩ := ixs_own hi e.symm
  exact ⟨h1, cs, fz, h2⟩
def BiI (w0 : World) (N E B : Nat) (r : Nat) (R : List Int) (W : World) : Prop := BiAt w0 N E B R W ∧ R.length + 100 * r ≤ 900000000
theorem BiI.goes {w0 : World} {N E B : Nat} (hN : w0.heap.size ≤ N) (hB : w0.heap.size ≤ B) : Goes w0 (BiP N B) (BiI w0 N E B) where
  low := fun k O hk h => by rcases h with h | h <;> omega
  new := fun r s W h cs fz hp => by
    obtain ⟨a, m, c, h1, _⟩ := h.1.box
    have e1 := lt_of_block h1
    rcases hp with hp | ⟨-, cs', fz', hp⟩
    · omega
    · injection hp with hp
      injection hp with _ hp _
      exact absurd hp (by decide)
  keep := fun r s W W' h hb => ⟨h.1.below hb, h.2⟩
  less := fun r r' s W h hr => ⟨h.1, by have := h.2; omega⟩
theorem range_block {w W : World} {b o : Nat} {cs : List Value} (h : w.rangeAt b o cs) (hb : W.heap[b]? = w.heap[b]?) : W.rangeAt b o cs := fun j v hv => by
  rw [World.cell?_of_block (w := w) (a := ⟨b, o + j, none⟩) hb]; exact h j v hv
theorem own_few' {h : Hd} {n : Nat} (hf : smallB h n = true) : (ownH h).length ≤ 100 := by
  unfold smallB at hf
  have hl : longB h = false := by simpa using hf
  have := (long_no hl).1
  unfold ownH
  split
  · simp
  · split
    · omega
    · simp
set_option maxRecDepth 100000 in
set_option maxHeartbeats 6400000 in
theorem bind1_walk (w0 : World) (N E B : Nat) (R : List Int) (t : AT) (h : Hd) (v : V) (l : Nat) (W : World) (hC : BiAt w0 N E B R W) (hT : AtIs w0 h v l t) (hb00 : Below w0.heap.size w0 W) (hlo : B ≤ W.heap.size) (hn : R.length + (ownH h).length ≤ 1000000000) :
    Calls Tryd.prog 26 #[.agg #[.int .u8 h.h.k, .int .u8 h.h.op, .int .i64 h.h.pl, .int .i64 h.h.n, .string h.h.name, .string h.h.arg, .string h.h.exn, .int .i64 h.rho, .slice v.ra h.rhos.length v.rc, .slice v.ea h.e.length v.ec, .int .u8 h.ty.h.k, .int .i64 h.ty.h.r, .slice v.tea h.ty.h.e.length v.tec, .slice v.tka h.ty.ks.length v.tkc, .int .u8 h.re.h.k, .int .i64 h.re.h.r, .slice v.sea h.re.h.e.length v.sec, .slice v.ska h.re.ks.length v.skc, .slice v.ka l v.kc], .pointer (some ⟨N, 0, none⟩)] W fun en W' => en = .returned (.tuple #[]) ∧ BiAt w0 N E B (R ++ ownH h) W' ∧ Tch (BiP N B) W W' := by
  have HC := Lib.hid hC; have HT := Lib.hid hT; have HB00 := Lib.hid hb00; have HLO := Lib.hid hlo; have HN := Lib.hid hn
  clear hC hT hb00 hlo hn
  go_enter Tryd.func26, Tryd.ntmps26
  go_upto_region 1 with (fail)
  obtain ⟨W0, hW0⟩ : ∃ W0, W0 = W.alloc (.cells #[.int .u8 h.h.k, .int .u8 h.h.op, .int .i64 h.h.pl, .int .i64 h.h.n, .string h.h.name, .string h.h.arg, .string h.h.exn, .int .i64 h.rho, .slice v.ra h.rhos.length v.rc, .slice v.ea h.e.length v.ec, .int .u8 h.ty.h.k, .int .i64 h.ty.h.r, .slice v.tea h.ty.h.e.length v.tec, .slice v.tka h.ty.ks.length v.tkc, .int .u8 h.re.h.k, .int .i64 h.re.h.r, .slice v.sea h.re.h.e.length v.sec, .slice v.ska h.re.ks.length v.skc, .slice v.ka l v.kc] 33) := ⟨_, rfl⟩
  have hbx : Box W0 W.heap.size h v l := by rw [hW0]; exact box_of (w := W) (h := h) (v := v) (l := l)
  have hb0 : Below W.heap.size W W0 := by rw [hW0]; exact box_new _
  rw [← hW0]
  clear hW0
  have HBW := Lib.hid hb0
  generalize hN0 : W.heap.size = N0 at hbx ⊢
  have HN0 := Lib.hid hN0
  have HB0 := Lib.hid hb0; have HBX := Lib.hid hbx; have HRG := Lib.hid hbx.range
  obtain ⟨b0, b1, b2, b3, b4, b5, b6, b7, b8, b9, b10, b11, b12, b13, b14, b15, b16, b17, b18⟩ := hbx
  clear hb0 hN0 b0 b1 b2 b3 b4 b5 b6 b7 b8 b9 b10 b11 b12 b13 b14 b15 b16 b17 b18
  have hc0 := HC.out.below HBW.out
  obtain ⟨a, m, c, hboxW, hrowW, hm⟩ := HC.out.box
  have hbox := (HBW.out.block _ (lt_of_block hboxW)).trans hboxW
  have hrow := own_below hrowW HBW.out
  have HRLT := Lib.hid (fun g hg => (hrowW.lt g hg).2)
  have HSZ0 := Lib.hid (show N0 < W0.heap.size from World.block_lt_of_cell? W0 _ HBX.out.1)
  have q7 : W0.cell? ⟨N, 0, none⟩ = some (.slice a m c) := by simp [World.cell?, hbox]
  have hcall := binds_walk t h v l w0 W0.drew HT.out ((below_then HB00.out HBW.out HB00.out.size).drew)
  have HBOX := Lib.hid hbox; have HROW := Lib.hid hrow; have HC0 := Lib.hid hc0; have HCALL := Lib.hid hcall; have HM := Lib.hid hm; have HQ7 := Lib.hid q7
  clear hbox hrow hc0 hcall hm hboxW hrowW
  refine wp_region_held_drew (S := fun (V : World) => V.rangeAt N0 0 (acells h v l)) (by kernel_rfl) HRG.out (fun hHeld => ?_)
  refine wpAnyH_take (i := 1) (v := .agg #[.int .u8 h.h.k, .int .u8 h.h.op, .int .i64 h.h.pl, .int .i64 h.h.n, .string h.h.name, .string h.h.arg, .string h.h.exn, .int .i64 h.rho, .slice v.ra h.rhos.length v.rc, .slice v.ea h.e.length v.ec, .int .u8 h.ty.h.k, .int .i64 h.ty.h.r, .slice v.tea h.ty.h.e.length v.tec, .slice v.tka h.ty.ks.length v.tkc, .int .u8 h.re.h.k, .int .i64 h.re.h.r, .slice v.sea h.re.h.e.length v.sec, .slice v.ska h.re.ks.length v.skc, .slice v.ka l v.kc]) rfl (by kernel_rfl) (by kernel_rfl) (by kernel_rfl) (fun _ _ _ h => h) (Or.inl ⟨by rfl, ?_⟩) (by assumption) ?_
  · intro w' hSw
    exact exec_at _ rfl N0 0 rfl hSw
  try simp only [Act.put, List.getElem_toArray, List.getElem_cons_succ, List.getElem_cons_zero, List.setIfInBounds_toArray, List.set_cons_zero, List.set_cons_succ]
  refine wpAnyH_ready (rs := [0, 2]) (by kernel_rfl) (by simp) ?_
  refine AllReadyH.cons rfl (fun K hK => ?_) (AllReadyH.cons rfl (fun K hK => ?_) AllReadyH.nil)
  · have HK2 := Lib.hid hK
    clear hK
    try rw [if_pos (by rfl)]
    go_simp
    refine HK2.out _ _ HRG.out (fun hHeld => ?_)
    clear HK2
    try simp only [Act.put, List.getElem_toArray, List.getElem_cons_succ, List.getElem_cons_zero, List.setIfInBounds_toArray, List.set_cons_zero, List.set_cons_succ]
    clear K
    refine wpAnyH_ready (rs := [2]) (by kernel_rfl) (by simp) ?_
    refine AllReadyH.cons rfl (fun K hK => ?_) AllReadyH.nil
    have HK2 := Lib.hid hK
    clear hK
    try rw [if_pos (by rfl)]
    go_simp
    refine HCALL.out.mono ?_
    rintro en w2 ⟨p2, n2, c2, rfl, hn2, hrd2, hb2d, -⟩
    have hb2 : Below W0.heap.size W0 w2 := undrew' hb2d
    have hs2 := range_below HRG.out hb2
    have hc2 := HC0.out.below hb2
    have hrow2 := own_below HROW.out hb2
    have q8 : w2.cell? ⟨N, 0, none⟩ = some (.slice a m c) := by have := (hb2.block _ (lt_of_block HBOX.out)).trans HBOX.out; simp [World.cell?, this]
    obtain ⟨a3, c3, w3, hrun3, hi3, hg3, -⟩ := append_rd (c := c2) hrow2 hrd2 (by have := HN.out; rw [HM.out, hn2]; exact this) (by have := HLO.out; have := HBW.out.size; have := hb2.size; omega)
    obtain ⟨hst1, hst2, ⟨x3, hx3⟩, hst3⟩ := hc2.step hrow2 HM.out hn2 hi3 hg3
    have hs3 : w3.rangeAt N0 0 (acells h v l) := range_block hs2 (hg3.block N0 (by have := HN0.out; have := hb2.size; have := HSZ0.out; omega) (fun e => by have := HRLT.out _ e.symm; have := HN0.out; omega))
    have hs4 : (w3.setCell ⟨N, 0, none⟩ (.slice a3 (m + n2) c3)).rangeAt N0 0 (acells h v l) := range_block hs3 (Below.heap_setCell _ _ _ _ (by show N0 ≠ N; have := HC.out.hN; have := HLO.out; have := HN0.out; omega))
    have f3 : w3.frozen? ⟨N, 0, none⟩ = false := by simp [World.frozen?, hx3]
    have g3 : w3.cell? ⟨N, 0, none⟩ = some x3 := by simp [World.cell?, hx3]
    have HB2 := Lib.hid hb2; have HS2 := Lib.hid hs2; have HRUN := Lib.hid hrun3; have HST1 := Lib.hid hst1; have HST2 := Lib.hid hst2; have HS3 := Lib.hid hs3; have HS4 := Lib.hid hs4
    clear hb2d hrd2 hb2 hs2 hc2 hrow2 hrun3 hi3 hg3 hst1 hst2 hst3 hs3 hs4 hn2
    refine HK2.out _ _ HS2.out (fun hHeld => ?_)
    clear HK2
    try simp only [Act.put, List.getElem_toArray, List.getElem_cons_succ, List.getElem_cons_zero, List.setIfInBounds_toArray, List.set_cons_zero, List.set_cons_succ]
    clear K
    refine wpAnyH_ready (rs := [3]) (by kernel_rfl) (by simp) ?_
    refine AllReadyH.cons rfl (fun K hK => ?_) AllReadyH.nil
    have HK2 := Lib.hid hK
    clear hK
    refine step_append_made (by rfl) _ _ _ _ (by rfl) (.slice a m c) (.slice p2 n2 c2) _ (by rfl) (by rfl) HRUN.out ?_
    refine HK2.out _ _ HS3.out (fun hHeld => ?_)
    clear HK2
    try simp only [Act.put, List.getElem_toArray, List.getElem_cons_succ, List.getElem_cons_zero, List.setIfInBounds_toArray, List.set_cons_zero, List.set_cons_succ]
    clear K
    refine wpAnyH_ready (rs := [4]) (by kernel_rfl) (by simp) ?_
    refine AllReadyH.cons rfl (fun K hK => ?_) AllReadyH.nil
    have HK2 := Lib.hid hK
    clear hK
    try rw [if_pos (by rfl)]
    go_simp
    refine HK2.out _ _ HS4.out (fun hHeld => ?_)
    clear HK2
    try simp only [Act.put, List.getElem_toArray, List.getElem_cons_succ, List.getElem_cons_zero, List.setIfInBounds_toArray, List.set_cons_zero, List.set_cons_succ]
    clear K
    refine wpAnyH_done (by kernel_rfl) ?_ _
    clear hHeld
    go_wp2_with (fail)
    go_end0
    exact ⟨rfl, HST1.out, ((Tch.of_below HBW.out).trans (Tch.of_below HB2.out)).trans HST2.out⟩
  · have HK2 := Lib.hid hK
    clear hK
    try rw [if_pos (by rfl)]
    go_simp
    refine HCALL.out.mono ?_
    rintro en w2 ⟨p2, n2, c2, rfl, hn2, hrd2, hb2d, -⟩
    have hb2 : Below W0.heap.size W0 w2 := undrew' hb2d
    have hs2 := range_below HRG.out hb2
    have hc2 := HC0.out.below hb2
    have hrow2 := own_below HROW.out hb2
    have q8 : w2.cell? ⟨N, 0, none⟩ = some (.slice a m c) := by have := (hb2.block _ (lt_of_block HBOX.out)).trans HBOX.out; simp [World.cell?, this]
    obtain ⟨a3, c3, w3, hrun3, hi3, hg3, -⟩ := append_rd (c := c2) hrow2 hrd2 (by have := HN.out; rw [HM.out, hn2]; exact this) (by have := HLO.out; have := HBW.out.size; have := hb2.size; omega)
    obtain ⟨hst1, hst2, ⟨x3, hx3⟩, hst3⟩ := hc2.step hrow2 HM.out hn2 hi3 hg3
    have hs3 : w3.rangeAt N0 0 (acells h v l) := range_block hs2 (hg3.block N0 (by have := HN0.out; have := hb2.size; have := HSZ0.out; omega) (fun e => by have := HRLT.out _ e.symm; have := HN0.out; omega))
    have hs4 : (w3.setCell ⟨N, 0, none⟩ (.slice a3 (m + n2) c3)).rangeAt N0 0 (acells h v l) := range_block hs3 (Below.heap_setCell _ _ _ _ (by show N0 ≠ N; have := HC.out.hN; have := HLO.out; have := HN0.out; omega))
    have f3 : w3.frozen? ⟨N, 0, none⟩ = false := by simp [World.frozen?, hx3]
    have g3 : w3.cell? ⟨N, 0, none⟩ = some x3 := by simp [World.cell?, hx3]
    have HB2 := Lib.hid hb2; have HS2 := Lib.hid hs2; have HRUN := Lib.hid hrun3; have HST1 := Lib.hid hst1; have HST2 := Lib.hid hst2; have HS3 := Lib.hid hs3; have HS4 := Lib.hid hs4
    clear hb2d hrd2 hb2 hs2 hc2 hrow2 hrun3 hi3 hg3 hst1 hst2 hst3 hs3 hs4 hn2
    refine HK2.out _ _ HS2.out (fun hHeld => ?_)
    clear HK2
    try simp only [Act.put, List.getElem_toArray, List.getElem_cons_succ, List.getElem_cons_zero, List.setIfInBounds_toArray, List.set_cons_zero, List.set_cons_succ]
    clear K
    refine wpAnyH_ready (rs := [0]) (by kernel_rfl) (by simp) ?_
    refine AllReadyH.cons rfl (fun K hK => ?_) AllReadyH.nil
    have HK2 := Lib.hid hK
    clear hK
    try rw [if_pos (by rfl)]
    go_simp
    refine HK2.out _ _ HS2.out (fun hHeld => ?_)
    clear HK2
    try simp only [Act.put, List.getElem_toArray, List.getElem_cons_succ, List.getElem_cons_zero, List.setIfInBounds_toArray, List.set_cons_zero, List.set_cons_succ]
    clear K
    refine wpAnyH_ready (rs := [3]) (by kernel_rfl) (by simp) ?_
    refine AllReadyH.cons rfl (fun K hK => ?_) AllReadyH.nil
    have HK2 := Lib.hid hK
    clear hK
    refine step_append_made (by rfl) _ _ _ _ (by rfl) (.slice a m c) (.slice p2 n2 c2) _ (by rfl) (by rfl) HRUN.out ?_
    refine HK2.out _ _ HS3.out (fun hHeld => ?_)
    clear HK2
    try simp only [Act.put, List.getElem_toArray, List.getElem_cons_succ, List.getElem_cons_zero, List.setIfInBounds_toArray, List.set_cons_zero, List.set_cons_succ]
    clear K
    refine wpAnyH_ready (rs := [4]) (by kernel_rfl) (by simp) ?_
    refine AllReadyH.cons rfl (fun K hK => ?_) AllReadyH.nil
    have HK2 := Lib.hid hK
    clear hK
    try rw [if_pos (by rfl)]
    go_simp
    refine HK2.out _ _ HS4.out (fun hHeld => ?_)
    clear HK2
    try simp only [Act.put, List.getElem_toArray, List.getElem_cons_succ, List.getElem_cons_zero, List.setIfInBounds_toArray, List.set_cons_zero, List.set_cons_succ]
    clear K
    refine wpAnyH_done (by kernel_rfl) ?_ _
    clear hHeld
    go_wp2_with (fail)
    go_end0
    exact ⟨rfl, HST1.out, ((Tch.of_below HBW.out).trans (Tch.of_below HB2.out)).trans HST2.out⟩
set_option maxRecDepth 10000 in
set_option maxHeartbeats 1600000 in
theorem eachBinds_walk (w0 : World) (N E B : Nat) : Steps 34 [.pointer (some ⟨E, 0, none⟩)] (fun _ _ => true) (fun R t => R ++ ownH t.h) smallB w0 (BiP N B) (BiI w0 N E B) := by
  intro r R W t h v l hi hT hC hb0
  obtain ⟨hA, hlen⟩ := hi
  have how := own_few' hC
  have hlB : B ≤ W.heap.size := by have := hA.hB; have := lt_of_block hA.fn; omega
  have hs1 := fun (W' : World) (hb : Below W.heap.size W W') => bind1_walk w0 N E B R t h v l W' (hA.below hb) hT (below_then hb0 hb hb0.size) (by have := hb.size; omega) (by omega)
  have hth := hT.head
  have HA := Lib.hid hA; have HS1 := Lib.hid hs1; have HLEN := Lib.hid (And.intro hlen how); have HTH := Lib.hid hth
  clear hA hs1 hT hC hb0 hlen how hth hlB
  show Calls Tryd.prog 34 #[.agg #[.int .u8 h.h.k, .int .u8 h.h.op, .int .i64 h.h.pl, .int .i64 h.h.n, .string h.h.name, .string h.h.arg, .string h.h.exn, .int .i64 h.rho, .slice v.ra h.rhos.length v.rc, .slice v.ea h.e.length v.ec, .int .u8 h.ty.h.k, .int .i64 h.ty.h.r, .slice v.tea h.ty.h.e.length v.tec, .slice v.tka h.ty.ks.length v.tkc, .int .u8 h.re.h.k, .int .i64 h.re.h.r, .slice v.sea h.re.h.e.length v.sec, .slice v.ska h.re.ks.length v.skc, .slice v.ka l v.kc], .pointer (some ⟨E, 0, none⟩)] W _
  go_enter Tryd.func34, Tryd.ntmps34
  go_upto_region 1 with (fail)
  obtain ⟨W0, hW0⟩ : ∃ W0, W0 = W.alloc (.cells #[.int .u8 h.h.k, .int .u8 h.h.op, .int .i64 h.h.pl, .int .i64 h.h.n, .string h.h.name, .string h.h.arg, .string h.h.exn, .int .i64 h.rho, .slice v.ra h.rhos.length v.rc, .slice v.ea h.e.length v.ec, .int .u8 h.ty.h.k, .int .i64 h.ty.h.r, .slice v.tea h.ty.h.e.length v.tec, .slice v.tka h.ty.ks.length v.tkc, .int .u8 h.re.h.k, .int .i64 h.re.h.r, .slice v.sea h.re.h.e.length v.sec, .slice v.ska h.re.ks.length v.skc, .slice v.ka l v.kc] 33) := ⟨_, rfl⟩
  have hbx : Box W0 W.heap.size h v l := by rw [hW0]; exact box_of (w := W) (h := h) (v := v) (l := l)
  have hb0 : Below W.heap.size W W0 := by rw [hW0]; exact box_new _
  rw [← hW0]
  clear hW0
  have HBW := Lib.hid hb0
  generalize hN0 : W.heap.size = N0 at hbx ⊢
  have HN0 := Lib.hid hN0
  have HB0 := Lib.hid hb0; have HBX := Lib.hid hbx; have HRG := Lib.hid hbx.range
  obtain ⟨b0, b1, b2, b3, b4, b5, b6, b7, b8, b9, b10, b11, b12, b13, b14, b15, b16, b17, b18⟩ := hbx
  clear hb0 hN0 b0 b1 b2 b3 b4 b5 b6 b7 b8 b9 b10 b11 b12 b13 b14 b15 b16 b17 b18
  have hc0 := HA.out.below HBW.out
  have cE : W0.cell? ⟨E, 0, none⟩ = some (.func (.func 26) #[] #[.pointer (some ⟨N, 0, none⟩)]) := by simp [World.cell?, hc0.fn, fnBox]
  clear hc0
  go_wp2_with (refine at_load rfl _ rfl N0 0 rfl HRG.out ?_)
  refine (HS1.out W0 HBW.out).mono ?_
  rintro en w1 ⟨rfl, hc, hs⟩
  have HC := Lib.hid hc; have HS := Lib.hid hs
  clear hc hs cE
  go_wp2_with (fail)
  go_ret
  refine ⟨rfl, ⟨?_, ?_⟩, (Tch.of_below HBW.out).trans HS.out⟩
  · show BiAt w0 N E B (R ++ ownH t.h) w1
    rw [HTH.out]; exact HC.out
  · show (R ++ ownH t.h).length + 100 * r ≤ 900000000
    rw [HTH.out, List.length_append]
    have := HLEN.out
    omega
theorem bindK_flat' : ∀ ts : List AT, bindK ts = ownL (flatK ts)
  | [] => by rw [bindK_nil, flatK_nil]; rfl
  | t :: ts => by rw [bindK_cons, flatK_cons, ownL_append, bindT_flat, bindK_flat' ts]
theorem fold_own : ∀ (l : List AT) (R : List Int), l.foldl (fun R t => R ++ ownH t.h) R = R ++ ownL l
  | [], R => by rw [ownL]; simp
  | t :: l, R => by rw [List.foldl_cons, fold_own l, ownL, List.append_assoc]
set_option maxRecDepth 10000 in
set_option maxHeartbeats 3200000 in
theorem bindsK_walk (ts : List AT) (p : Option Addr) (l d : Nat) (w0 w : World) (hl : ts.length = l) (hlm : l ≤ maxLen) (hk : ∀ W, Below w.heap.size w W → RowS w0 W p ts) (hb00 : Below w0.heap.size w0 w) (hw : wts ts ≤ 1000000) (hc : allK smallB ts = true) :
    Calls Tryd.prog 13 #[.slice p l d] w fun e w' => ∃ a c, e = .returned (.slice a (bindK ts).length c) ∧ Ixs w.heap.size w' (.slice a (bindK ts).length c) (bindK ts).length (bindK ts) ∧ Below w.heap.size w w' := by
  have hsz : (w.alloc (.cells #[.slice none 0 0] 24)).heap.size = w.heap.size + 1 := by simp
  have h0 : BiAt w0 w.heap.size (w.alloc (.cells #[.slice none 0 0] 24)).heap.size (w.heap.size + 2) [] ((w.alloc (.cells #[.slice none 0 0] 24)).alloc (.cells #[.func (.func 26) #[] #[.pointer (some ⟨w.heap.size, 0, none⟩)]] 53)) := by
    refine ⟨⟨none, 0, 0, ((box_new _).block _ (by simp)).trans (heap_alloc_new _ _), World.ownsRow_nil _ _ _ _, rfl⟩, heap_alloc_new _ _, by omega, hb00.size, by omega, by omega, by omega⟩
  have hbb : Below w.heap.size w ((w.alloc (.cells #[.slice none 0 0] 24)).alloc (.cells #[.func (.func 26) #[] #[.pointer (some ⟨w.heap.size, 0, none⟩)]] 53)) := (box_new _).trans ((box_new _).mono (by simp))
  have hlowP : ∀ k O, k < w.heap.size → ¬ BiP w.heap.size (w.heap.size + 2) k O := fun k O hk h => by rcases h with h | h <;> omega
  have h1 := allEach_walk (fun _ _ => true) (fun R t => R ++ ownH t.h) smallB w0 (BiP w.heap.size (w.heap.size + 2)) (w.alloc (.cells #[.slice none 0 0] 24)).heap.size (BiI w0 w.heap.size (w.alloc (.cells #[.slice none 0 0] 24)).heap.size (w.heap.size + 2)) (BiI.goes hb00.size (by have := hb00.size; omega)) (eachBinds_walk w0 w.heap.size _ _) (wts ts) ts p l d 0 [] _ (Nat.le_refl _) hl hlm
    (fun W hW => hk W (hW.below hlowP hbb (Nat.le_refl _))) (below_then hb00 hbb hb00.size) hc ⟨h0, by simp; omega⟩
  have h2 := each_of 26 w.heap.size p l d _ (fun w' => BiAt w0 w.heap.size (w.alloc (.cells #[.slice none 0 0] 24)).heap.size (w.heap.size + 2) (bindK ts) w' ∧ Below w.heap.size w w') (h1.mono (by
    rintro en w' ⟨rfl, hi, hs⟩
    have hf : foK (fun _ _ => true) (fun R t => R ++ ownH t.h) ts [] = (true, bindK ts) := by
      rw [foK_flat, foL_true, fold_own, bindK_flat', List.nil_append]
    rw [hf] at hi
    exact ⟨⟨_, rfl⟩, hi.1, hs.below hlowP hbb (Nat.le_refl _)⟩))
  have H2 := Lib.hid h2
  clear h0 h1 h2 hk hl hlm hw hsz hbb hlowP hc hb00
  go_enter Tryd.func13, Tryd.ntmps13
  go_wp2_with (fail)
  refine H2.out.mono ?_
  rintro e w1 ⟨rfl, hC1, hb1⟩
  obtain ⟨a, m, c, hbox, hrow, rfl⟩ := hC1.box
  have c1 : w1.cell? ⟨w.heap.size, 0, none⟩ = some (.slice a (bindK ts).length c) := by simp [World.cell?, hbox]
  have HB1 := Lib.hid hb1; have HR1 := Lib.hid hrow
  generalize hX : bindK ts = X at *
  have HX := Lib.hid hX
  clear hC1 hX hb1 hrow hbox
  go_wp2_with (fail)
  go_ret
  rw [HX.out]
  exact ⟨a, c, rfl, own_lower HR1.out (by omega), HB1.out⟩
end Aterm
end Go.Proofs.YtolpdhkgkjnbfaaDoor
namespace Go.Proofs.YtolpdhkgkjnbfaaDoor
open Go.RowKit
set_option linter.unusedVariables false
set_option linter.unusedSimpArgs false
namespace Aterm
open Effect (RdI nget nget_at nget_mem ret_bool)

theorem ints_ext {l k : List Int} (hlen : l.length = k.length) (h : ∀ i, i < l.length → nget l i = nget k i) : l = k := by
  refine List.ext_getElem? fun i => ?_
  rcases Nat.lt_or_ge i l.length with hi | hi
  · rw [nget_at hi, nget_at (by omega), h i hi]
  · rw [List.getElem?_eq_none hi, List.getElem?_eq_none (by omega)]
end Aterm
end Go.Proofs.YtolpdhkgkjnbfaaDoor
namespace Go.Proofs.YtolpdhkgkjnbfaaDoor
open Go.RowKit
set_option linter.unusedVariables false
set_option linter.unusedSimpArgs false
namespace Aterm
open Effect (RdI nget nget_at nget_mem ret_bool)

set_option maxRecDepth 100000 in
set_option maxHeartbeats 6400000 in
theorem equalInts_walkM {n c m d : Nat} {a b : Option Addr} {l k : List Int} {w : World} (h : RdI w n a l) (h2 : RdI w m b k) (hn : n ≤ 1000000) (hm : m ≤ 1000000) : Calls Tryd.prog 12 #[.slice a n c, .slice b m d] w fun e w' => e = .returned (.bool (decide (l = k))) ∧ Below w.heap.size w w' := by
  have mixed : Tryd.prog.follows .mixedOrders = true := by kernel_rfl
  have hnl := h.len; have hmk := h2.len
  have H := Lib.hid h; have H2 := Lib.hid h2
  clear h h2
  by_cases hnm : n = m
  · subst hnm
    have HN := Lib.hid hnl; have HM := Lib.hid hmk
    clear hnl hmk
    go_enter Tryd.func12, Tryd.ntmps12
    go_wp2_with (fail)
    go_loopg [5, 13] n (fun gh _ i wr => ∃ j q : Nat, j ≤ n ∧ n - j ≤ gh ∧ i = .int .i64 (j : Int) ∧ wr = w.drewN q ∧ Hid (∀ i, i < j → nget l i = nget k i))
    case atStart => exact ⟨0, 0, Nat.zero_le _, by omega, rfl, rfl, Lib.hid (fun i hi => by omega)⟩
    case round =>
      obtain ⟨j, q, hj, hgh, rfl, rfl, HE⟩ := hrel
      by_cases hlt : j < n
      · have hjl : j < l.length := by rw [HN.out]; exact hlt
        have hjk : j < k.length := by rw [HM.out]; exact hlt
        obtain ⟨b1, o1, rfl, e0⟩ := H.out.get j hjl
        obtain ⟨b2, o2, rfl, e1⟩ := H2.out.get j hjk
        have hst : nget l j = nget k j → ∀ i, i < j + 1 → nget l i = nget k i := fun he i hi => by
          rcases Nat.lt_or_ge i j with h | h
          · exact HE.out i h
          · rw [show i = j from by omega]; exact he
        have hno : nget l j ≠ nget k j → false = decide (l = k) := fun he => by
          rw [eq_comm, decide_eq_false_iff_not]
          intro h
          exact he (by rw [h])
        have HST := Lib.hid hst; have HNO := Lib.hid hno
        clear hst hno
        generalize nget l j = x at *
        generalize nget k j = y at *
        by_cases hxy : x = y
        · subst hxy
          have hxx : (x == x) = true := by simp
          have HS := Lib.hid (HST.out rfl)
          clear hjl hjk HST HNO
          go_wp2_with (fail)
          go_region_o
          clear hxx e0 e1
          go_wp2_with (fail)
          go_roundg (n - (j + 1))
          case measure => omega
          case rel => exact ⟨j + 1, q + 1, by omega, by omega, by go_num, rfl, HS⟩
        · have hxx : (x == y) = false := by simpa using hxy
          have hyy : (x != y) = true := by simpa using hxy
          have HS := Lib.hid (HNO.out hxy)
          clear hjl hjk HST HNO hxy
          go_wp2_with (fail)
          go_region_o
          clear e0 e1
          go_wp2_with (fail)
          go_ret
          exact ⟨ret_bool HS.out, ⟨rfl, rfl, rfl, Nat.le_refl _, fun _ _ => rfl⟩⟩
      · obtain rfl : j = n := by omega
        have hlk : l = k := ints_ext (by rw [HN.out, HM.out]) (fun i hi => HE.out i (by rw [HN.out] at hi; exact hi))
        have HLK := Lib.hid (show true = decide (l = k) from (decide_eq_true hlk).symm)
        clear hlk
        go_wp2_with (fail)
        go_ret
        exact ⟨ret_bool HLK.out, ⟨rfl, rfl, rfl, Nat.le_refl _, fun _ _ => rfl⟩⟩
  · have HLK := Lib.hid (show false = decide (l = k) from by
      rw [eq_comm, decide_eq_false_iff_not]
      intro h
      rw [h] at hnl
      omega)
    clear hnl hmk
    go_enter Tryd.func12, Tryd.ntmps12
    go_wp2_with (fail)
    go_ret
    exact ⟨ret_bool HLK.out, ⟨rfl, rfl, rfl, Nat.le_refl _, fun _ _ => rfl⟩⟩
end Aterm
end Go.Proofs.YtolpdhkgkjnbfaaDoor
namespace Go.Proofs.YtolpdhkgkjnbfaaDoor
open Go.RowKit
set_option linter.unusedVariables false
set_option linter.unusedSimpArgs false
namespace Aterm
open Rt (box_new box_at below_then)
open Effect (ret_bool ret_i64 lt_of_block heap_alloc_new)

set_option maxRecDepth 10000 in
set_option maxHeartbeats 6400000 in
theorem allMay_walk {σ : Type} (B : σ → AT → Bool) (S : σ → AT → σ) (C : Hd → Nat → Bool) (w0 : World) (P : Nat → Option Obj → Prop) (K0 : Nat) (I : Nat → σ → World → Prop) (hI : Goes w0 P I) (hC : Steps 30 [.pointer (some ⟨K0, 0, none⟩)] B S C w0 P I) :
    ∀ (m : Nat) (ts : List AT) (p : Option Addr) (l d r : Nat) (s : σ) (w : World), wts ts ≤ m → ts.length = l → l ≤ maxLen → (∀ W, Tch P w W → RowS w0 W p ts) → Below w0.heap.size w0 w → allK C ts = true → I (r + wts ts) s w →
    Calls Tryd.prog 21 #[.func (.func 30) #[] #[.pointer (some ⟨K0, 0, none⟩)], .slice p l d] w (FoEnd P (I r) (foK B S ts s) w) := by
  have GI := Lib.hid hI; have GC := Lib.hid hC
  clear hI hC
  intro m
  induction m using Nat.strongRecOn with
  | _ m ih =>
    intro ts p l d r s w hm hl hlm hk hb00 hcc hi
    unfold maxLen at hlm
    have HM := Lib.hid hm; have HL := Lib.hid hl; have HK := Lib.hid hk; have HI := Lib.hid hi; have IH := Lib.hid ih; have HB00 := Lib.hid hb00; have HCC := Lib.hid hcc
    clear hm hl hk hi ih hb00 hcc
    go_enter Tryd.func21, Tryd.ntmps21
    go_wp2_with (fail)
    go_loopw [6, 9] (fun _ i wr => ∃ (j : Nat) (u : σ), j ≤ l ∧ i = .int .i64 j ∧ Hid (foK B S ts s = foK B S (ts.drop j) u) ∧ Hid (I (r + wts (ts.drop j)) u wr) ∧ Hid (Tch P w wr)) (fun _ i _ => l - (intOf i).toNat)
    case atStart => exact ⟨0, s, Nat.zero_le _, rfl, Lib.hid (by rw [List.drop_zero]), Lib.hid (by rw [List.drop_zero]; exact HI.out), Lib.hid (Tch.refl _)⟩
    case round =>
      obtain ⟨j, u, hj, rfl, HF, HJ, HS⟩ := hrel
      by_cases hlt : j < l
      · have hjk : j < ts.length := by rw [HL.out]; exact hlt
        obtain ⟨b, o, v, rfl, hkid, hrg⟩ := HK.out wr HS.out j hjk
        have hbr : Below w0.heap.size w0 wr := HS.out.below GI.out.low HB00.out (Nat.le_refl _)
        have hcj := allK_get _ hjk HCC.out
        rw [allT_eq, Bool.and_eq_true] at hcj
        have hwd := wts_drop' ts j hjk
        have hwm : wts (tget ts j).ks < wts ts := by have h1 := wts_get hjk; have h2 := wt_ks (tget ts j); omega
        have hin : I ((r + wts (ts.drop (j + 1))) + wts (tget ts j).ks + 1) u wr := GI.out.less _ _ _ _ HJ.out (by omega)
        have hnew := GI.out.new _ _ _ HJ.out
        have HJK := Lib.hid hjk; have HKID := Lib.hid hkid; have HWM := Lib.hid hwm; have HIN := Lib.hid hin; have HRG := Lib.hid hrg; have HBR := Lib.hid hbr; have HCJ := Lib.hid hcj; have HNEW := Lib.hid hnew
        clear hjk hkid hwd hwm hin hrg hbr hcj hnew
        go_upto_region 4 with (first | refine at_load rfl _ rfl b (o + j * 19) rfl HRG.out ?_ | refine at_store rfl _ _ rfl _ rfl (tget ts j).h v (tget ts j).ks.length rfl rfl ?_)
        obtain ⟨W0, hW0⟩ : ∃ W0, W0 = wr.alloc (.cells #[.int .u8 (tget ts j).h.h.k, .int .u8 (tget ts j).h.h.op, .int .i64 (tget ts j).h.h.pl, .int .i64 (tget ts j).h.h.n, .string (tget ts j).h.h.name, .string (tget ts j).h.h.arg, .string (tget ts j).h.h.exn, .int .i64 (tget ts j).h.rho, .slice v.ra (tget ts j).h.rhos.length v.rc, .slice v.ea (tget ts j).h.e.length v.ec, .int .u8 (tget ts j).h.ty.h.k, .int .i64 (tget ts j).h.ty.h.r, .slice v.tea (tget ts j).h.ty.h.e.length v.tec, .slice v.tka (tget ts j).h.ty.ks.length v.tkc, .int .u8 (tget ts j).h.re.h.k, .int .i64 (tget ts j).h.re.h.r, .slice v.sea (tget ts j).h.re.h.e.length v.sec, .slice v.ska (tget ts j).h.re.ks.length v.skc, .slice v.ka (tget ts j).ks.length v.kc] 33) := ⟨_, rfl⟩
        have hbx : Box W0 wr.heap.size (tget ts j).h v (tget ts j).ks.length := by rw [hW0]; exact box_of (w := wr) (h := (tget ts j).h) (v := v) (l := (tget ts j).ks.length)
        have hb0 : Below wr.heap.size wr W0 := by rw [hW0]; exact box_new _
        have hnp : ¬ P wr.heap.size W0.heap[wr.heap.size]? := by
          rw [hW0, heap_alloc_new]
          exact HNEW.out _ _
        rw [← hW0]
        clear hW0
        have HSA := Lib.hid (HS.out.trans (Tch.of_below hb0))
        have HST := Lib.hid (GI.out.keep _ _ _ _ HIN.out hb0); have HBR0 := Lib.hid (below_then HBR.out hb0 HBR.out.size)
        generalize hN0 : wr.heap.size = N0 at hbx hnp ⊢
        have HNP := Lib.hid hnp; have HBX := Lib.hid hbx; have HRB := Lib.hid hbx.range
        clear hb0 hN0 hbx hnp
        go_wp2_with (refine at_load rfl _ rfl N0 0 rfl HRB.out ?_)
        refine (GC.out _ _ _ (tget ts j) (tget ts j).h v (tget ts j).ks.length HST.out HKID.out HCJ.out.1 HBR0.out).mono ?_
        rintro e w1 ⟨rfl, hi1, hs1⟩
        obtain ⟨b0, b1, b2, b3, b4, b5, b6, b7, b8, b9, b10, b11, b12, b13, b14, b15, b16, b17, b18⟩ := hs1.box HBX.out HNP.out
        clear b0 b1 b2 b3 b4 b5 b6 b7 b8 b9 b10 b11 b12 b13 b14 b15 b16 b17
        have HI1 := Lib.hid hi1
        have HS1 := Lib.hid (HSA.out.trans hs1)
        clear hi1 hs1
        cases hb : B u (tget ts j)
        · have hno := foK_no B S HJK.out hb
          have hi2 := GI.out.less _ r _ _ HI1.out (by omega)
          have HNO := Lib.hid hno; have HB := Lib.hid hb; have HI2 := Lib.hid hi2
          clear hno hb hi2
          go_wp2_with (fail)
          go_ret
          exact ⟨ret_bool (by rw [HF.out, HNO.out]), by rw [HF.out, HNO.out]; exact HI2.out, HS1.out⟩
        · have HB := Lib.hid hb
          clear hb
          go_wp2_with (fail)
          refine (IH.out (wts (tget ts j).ks) (by have := HWM.out; have := HM.out; omega) (tget ts j).ks v.ka _ v.kc (r + wts (ts.drop (j + 1))) _ _ (Nat.le_refl _) rfl (Nat.le_trans HKID.out.cap.1 HKID.out.cap.2) (fun W hW => rowS_kids HKID.out.kids ((HS1.out.trans hW).below GI.out.low HB00.out (Nat.le_refl _))) (HS1.out.below GI.out.low HB00.out (Nat.le_refl _)) HCJ.out.2 HI1.out).mono ?_
          rintro e w2 ⟨rfl, hi3, hs3⟩
          have HI3 := Lib.hid hi3
          have HS3 := Lib.hid (HS1.out.trans hs3)
          clear hi3 hs3 b18
          cases hk : (foK B S (tget ts j).ks (S u (tget ts j))).1
          · have hno := foK_kno B S HJK.out HB.out hk
            have hi4 := GI.out.less _ r _ _ HI3.out (by omega)
            have HNO := Lib.hid hno; have HKB := Lib.hid hk; have HI4 := Lib.hid hi4
            clear hno hk hi4
            go_wp2_with (fail)
            go_ret
            exact ⟨ret_bool (by rw [HF.out, HNO.out]), by rw [HF.out, HNO.out]; exact HI4.out, HS3.out⟩
          · have hyes := foK_yes B S HJK.out HB.out hk
            have HYES := Lib.hid hyes; have HKB := Lib.hid hk
            clear hyes hk
            go_wp2_with (fail)
            go_roundw
            case rel => exact ⟨j + 1, _, by omega, by go_num, Lib.hid (HF.out.trans HYES.out), HI3, HS3⟩
            case measure => simp [intOf]; omega
      · obtain rfl : j = l := by omega
        have hr := HF.out
        have hi := HJ.out
        rw [List.drop_eq_nil_of_le (by rw [HL.out]; exact Nat.le_refl _)] at hr hi
        rw [foK_nil] at hr
        rw [wts_nil] at hi
        have HR := Lib.hid hr; have HI2 := Lib.hid hi
        clear hr hi
        go_wp2_with (fail)
        go_ret
        exact ⟨ret_bool (by rw [HR.out]), by rw [HR.out]; exact HI2.out, HS.out⟩
end Aterm
end Go.Proofs.YtolpdhkgkjnbfaaDoor
