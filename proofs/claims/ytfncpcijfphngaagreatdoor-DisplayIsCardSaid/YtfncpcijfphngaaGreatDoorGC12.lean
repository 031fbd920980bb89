/-The walk of the program's Text of types with regions. (Written by wip/tools/rttyp.py.) The program's way through all nodes of terms with regions: what may be turned, and what is asked of its closure. (Written by wip/tools/atfold.py.) The program's way through all nodes of terms with regions: the walk, with the closure of May. (Written by wip/tools/atfold.py.) A row of one term with regions. (Written by wip/tools/atsizep.py.) The program's from: are all regions from a number on? (Written by wip/tools/atfits.py.) The program's looks at a node's fields, one by one. (Written by wip/tools/atfits.py.) -/
import Derived.Test.YtfncpcijfphngaaGreatDoorGC11
import Derived.Test.YtfncpcijfphngaaGreatDoorGC10
import Derived.Test.YtfncpcijfphngaaGreatDoorGC09
import Derived.Deep.WholeRow
import Derived.Test.YtfncpcijfphngaaGreatDoorGC04
namespace Go.Proofs.YtfncpcijfphngaaGreatDoor
open Go.RowKit
set_option linter.unusedVariables false
set_option linter.unusedSimpArgs false
namespace Rt
open Effect (At AtOk AtsAt Rd ofA ret_i64 ret_bool lt_of_block heap_alloc_new textE digs NumLaid own_slice)
open Types (jb jb_list)

def textS (t : RT) : ByteArray := if mayT t = true then jb (wordsT t) else ⟨#[]⟩
def errE (t : RT) : Int := if mayT t = true then 0 else 1
def TextEnd (t : RT) (w : World) (e : Ending) (w' : World) : Prop := e = .returned (.tuple #[.string (textS t), .int .i64 (errE t)]) ∧ Below w.heap.size w w'
theorem text_no {t : RT} (h : mayT t = false) : textS t = ⟨#[]⟩ ∧ errE t = 1 := by unfold textS errE; rw [h]; exact ⟨rfl, rfl⟩
theorem text_yes {t : RT} (h : mayT t = true) : textS t = jb (wordsT t) ∧ errE t = 0 := by unfold textS errE; rw [h]; exact ⟨rfl, rfl⟩
theorem wrote_low {N : Nat} {a w W : World} (h : Wrote N w W) {B : Nat} (hb : Below B a w) (hB : B ≤ N) (hw : B ≤ a.heap.size) : Below B a W :=
 ⟨h.os.trans hb.os, h.tape.trans hb.tape, h.output.trans hb.output, Nat.le_trans hb.size h.size, fun k hk => (h.low k (Nat.lt_of_lt_of_le (Nat.lt_of_lt_of_le hk hw) hb.size) (by omega)).trans (hb.block k hk)⟩
theorem eff_more {n m : Nat} (hnm : n ≤ m) {t : RT} (h : allT (effB n) t = true) : allT (effB m) t = true :=
 (all_imp (fun h l hh => eff_iff.2 ⟨Nat.le_trans (eff_iff.1 hh).1 hnm, fun x hx => Nat.le_trans ((eff_iff.1 hh).2 x hx) hnm⟩) _).1 t (Nat.le_refl _) h
theorem own_at {w : World} {base e size n c : Nat} {a : Option Addr} {xs : List Value} (h : w.ownsRow base e size (.slice a n c) n xs) (hn : 0 < n) : ∃ g, a = some ⟨g, 0, none⟩ ∧ base ≤ g := by
 rcases h.2 with ⟨_, h0⟩ | ⟨g, cap, _, hv, hg, _⟩
 ·omega
 ·injection hv with hv; exact ⟨g, hv, hg⟩
set_option maxRecDepth 10000 in
set_option maxHeartbeats 12800000 in
theorem text_walk (t : RT) (h : Hd) (pe : Option Addr) (ne ce : Nat) (p : Option Addr) (l c : Nat) (w : World) (hT : RtIs w h pe ne ce p l c t) (hw : wt t ≤ 100000) (hef : allT (effB 1000) t = true) (hsz : mayT t = true → (jb (wordsT t)).size ≤ 100000000) (hn : NumLaid w) :
  Calls Tryz.prog 112 #[.agg #[.int .u8 h.k, .int .i64 h.r, .slice pe ne ce, .slice p l c]] w (TextEnd t w) := by
 have hmay := fun O : Obj => may_walk [t] (some ⟨(w.alloc O).heap.size, 0, none⟩) 1 1 ((w.alloc O).alloc (.cells #[.int .u8 h.k, .int .i64 h.r, .slice pe ne ce, .slice p l c] 28)) rfl one_le (kids_one (hT.below (box_new O)) 28 _ rfl) (by rw [allK_one]; exact eff_more (by omega) hef)
 have hsm : ∀ O : Obj, (w.alloc O).heap.size = w.heap.size + 1 := fun O => by simp
 simp only [hsm] at hmay
 have hmk : mayK [t] = mayT t := allK_one _ t
 rw [hmk] at hmay
 obtain ⟨k, v, e⟩ := h
 have HM := Lib.hid hmay; have HT := Lib.hid hT; have HN := Lib.hid hn; have HW := Lib.hid hw; have HEF := Lib.hid hef; have HSZ := Lib.hid hsz
 clear hmay hT hn hw hef hsz hsm hmk
 go_enter Tryz.func112, Tryz.ntmps112
 go_wp2_with (fail)
 refine (HM.out _).mono ?_
 rintro en w1 ⟨rfl, hb1⟩
 have hX1 := (hb1.block w.heap.size (by simp; omega)).trans (((box_new _).block _ (by simp)).trans (heap_alloc_new w (.cells #[.int .u8 k, .int .i64 v, .slice pe ne ce, .slice p l c] 28)))
 have hB1 : Below w.heap.size w w1 := (box_new _).trans (((box_new _).trans (hb1.mono (by simp))).mono (by simp))
 have HB1 := Lib.hid hB1; have HX1 := Lib.hid hX1
 clear hb1 hB1 hX1
 cases hmt : mayT t
 ·obtain ⟨e1, e2⟩ := text_no hmt
  have HE := Lib.hid (And.intro e1 e2)
  clear hmt e1 e2
  go_wp2_with (fail)
  refine bodyPost_ret (v := .tuple #[.string ⟨#[]⟩, .int .i64 1]) (by simp [results, Tryz.results112, go_sem]) rfl ?_
  exact ⟨by rw [HE.out.1, HE.out.2], HB1.out⟩
 ·obtain ⟨e1, e2⟩ := text_yes hmt
  have hwl := words_le hmt
  have hpos := (words_pos _ t (Nat.le_refl _) hmt).1
  have hwt := HW.out
  have hcall := fun W hA hb => typ_all w1 w1.heap.size (Nat.le_refl _) (HN.out.below HB1.out) (wt t) t ⟨k, v, e⟩ pe ne ce p l c [] W (Nat.le_refl _) hmt HEF.out (HT.out.below HB1.out) hb hA (by simp; omega)
  have hA0 : WAt w1.heap.size [] (w1.alloc (.cells #[.slice none 0 0] 167)) := ⟨_, heap_alloc_new w1 _, World.ownsRow_nil _ _ _ _⟩
  have hle : (wordsT t).length ≤ 1000000 := by omega
  have hbd := HSZ.out hmt
  have HE := Lib.hid (And.intro e1 e2); have HC := Lib.hid hcall; have HA0 := Lib.hid hA0; have HLE := Lib.hid (And.intro hpos (And.intro hle hbd))
  obtain ⟨⟨c0, c1, c2, c3⟩, -⟩ := cells4 HX1.out
  have hlt := lt_of_block HX1.out
  clear hmt e1 e2 hwl hpos hwt hcall hA0 hle hbd
  go_wp2_with (fail)
  refine (HC.out _ HA0.out (box_new _)).mono ?_
  rintro en w5 ⟨rfl, hA5, hW5⟩
  rw [List.nil_append] at hA5
  obtain ⟨vv, hv5, hown⟩ := hA5
  obtain ⟨va, vc, hvv, _, hcap⟩ := own_slice hown
  subst hvv
  obtain ⟨g, rfl, hg⟩ := own_at hown (by have := HLE.out.1; omega)
  have e0 : w5.cell? ⟨w1.heap.size, 0, none⟩ = some (.slice (some ⟨g, 0, none⟩) (wordsT t).length vc) := by simp [World.cell?, hv5]
  have el := lt_of_block hv5
  have hcells : ∀ (j : Nat) x, (wordsT t)[j]? = some x → w5.cell? ⟨g, 0 + j, none⟩ = some (.string x) := by
   intro j x hx
   have := hown.cells (g := g) rfl j (.string x) (by rw [List.getElem?_map, hx]; rfl)
   rw [Addr.add_lit] at this
   exact this
  have hgl := (hown.lt g rfl).2
  have hle := HLE.out.2.1
  have hbd := HLE.out.2.2
  have hjoin := Tryz.strings_Join g 0 vc (wordsT t) ⟨#[32]⟩ w5 hcells hgl (by omega) hcap (by have e : (jb (wordsT t)).size = (Lib.join ((wordsT t).map (·.data.toList)) [32]).length := (by rw [← jb_list]; rfl); rw [e] at hbd; show (Lib.join _ [32]).length ≤ _; omega)
  have hB5 : Below w.heap.size w w5 := wrote_low hW5 (HB1.out.alloc HB1.out.size _) HB1.out.size (Nat.le_refl _)
  have HJ := Lib.hid hjoin; have HB5 := Lib.hid hB5
  clear hv5 hown hcells hgl hbd hle hjoin hW5 hcap hg hB5 c0 c1 c2 c3
  generalize (wordsT t).length = L at *
  go_wp2_with (fail)
  refine HJ.out.mono ?_
  rintro en w6 ⟨rfl, hb6⟩
  have HB6 := Lib.hid (below_then HB5.out hb6 HB5.out.size)
  clear hb6 e0 el
  go_wp2_with (fail)
  refine bodyPost_ret (v := .tuple #[.string ⟨(Lib.join (List.map (fun x => x.data.toList) (wordsT t)) [32]).toArray⟩, .int .i64 0]) (by simp [results, Tryz.results112, go_sem]) rfl ?_
  exact ⟨by rw [HE.out.1, HE.out.2]; rfl, HB6.out⟩
end Rt
end Go.Proofs.YtfncpcijfphngaaGreatDoor
namespace Go.Proofs.YtfncpcijfphngaaGreatDoor
open Go.RowKit
set_option linter.unusedVariables false
set_option linter.unusedSimpArgs false
namespace Aterm
open Rt (box_new box_at below_then)
open Effect (ret_bool ret_i64 lt_of_block heap_alloc_new)

/-- Only blocks of P may be turned. -/
structure Tch (P : Nat → Option Obj → Prop) (w w' : World) : Prop where
 os : w'.os = w.os
 tape : w'.tape = w.tape
 output : w'.output = w.output
 size : w.heap.size ≤ w'.heap.size
 block : ∀ k, k < w.heap.size → ¬ P k w.heap[k]? → w'.heap[k]? = w.heap[k]?
section
variable {P : Nat → Option Obj → Prop}
theorem Tch.refl (w : World) : Tch P w w := ⟨rfl, rfl, rfl, Nat.le_refl _, fun _ _ _ => rfl⟩
theorem Tch.trans {a b c : World} (h : Tch P a b) (k : Tch P b c) : Tch P a c :=
 ⟨k.os.trans h.os, k.tape.trans h.tape, k.output.trans h.output, Nat.le_trans h.size k.size, fun i hi hn => by
  have h1 := h.block i hi hn
  exact (k.block i (Nat.lt_of_lt_of_le hi h.size) (by rw [h1]; exact hn)).trans h1⟩
theorem Tch.of_below {w w' : World} (hb : Below w.heap.size w w') : Tch P w w' := ⟨hb.os, hb.tape, hb.output, hb.size, fun i hi _ => hb.block i hi⟩
theorem Tch.alloc {a w : World} (h : Tch P a w) (O : Obj) : Tch P a (w.alloc O) := h.trans (Tch.of_below (box_new O))
theorem Tch.drew {a w : World} (h : Tch P a w) : Tch P a w.drew := ⟨h.os, h.tape, h.output, h.size, h.block⟩
theorem Tch.below {w w' a : World} {B : Nat} (h : Tch P w w') (hP : ∀ k O, k < B → ¬ P k O) (ha : Below B a w) (hB : B ≤ a.heap.size) : Below B a w' :=
 ⟨h.os.trans ha.os, h.tape.trans ha.tape, h.output.trans ha.output, Nat.le_trans ha.size h.size, fun k hk => (h.block k (by have := ha.size; omega) (hP k _ hk)).trans (ha.block k hk)⟩
theorem Tch.range {w w' : World} (h : Tch P w w') {b o : Nat} {cs : List Value} (hr : w.rangeAt b o cs) (hn : ¬ P b w.heap[b]?) : w'.rangeAt b o cs := fun j v hv => by
 have h1 := hr j v hv
 have hlt : b < w.heap.size := World.block_lt_of_cell? w ⟨b, o + j, none⟩ h1
 rw [World.cell?_of_block (w := w) (a := ⟨b, o + j, none⟩) (h.block b hlt hn)]
 exact h1
theorem Tch.box {w w' : World} (h : Tch P w w') {N : Nat} {hd : Hd} {v : V} {l : Nat} (k : Box w N hd v l) (hn : ¬ P N w.heap[N]?) : Box w' N hd v l := by
 have hlt : N < w.heap.size := World.block_lt_of_cell? w _ k.1
 have hb := h.block N hlt hn
 unfold Box at *
 simp only [World.cell?_of_block (w := w) (w' := w') (a := ⟨N, _, none⟩) hb]
 exact k
end
/-- What is asked of a state's reading in memory. -/
structure Goes {σ : Type} (w0 : World) (P : Nat → Option Obj → Prop) (I : Nat → σ → World → Prop) : Prop where
 low : ∀ k O, k < w0.heap.size → ¬ P k O
 new : ∀ r s W, I r s W → ∀ cs fz, ¬ P W.heap.size (some (.cells cs 31 fz))
 keep : ∀ r s W W', I r s W → Below W.heap.size W W' → I r s W'
 less : ∀ r r' s W, I r s W → r' ≤ r → I r' s W
/-- How such a call ends. -/
def FoEnd {σ : Type} (P : Nat → Option Obj → Prop) (I : σ → World → Prop) (r : Bool × σ) (w : World) (e : Ending) (w' : World) : Prop := e = .returned (.bool r.1) ∧ I r.2 w' ∧ Tch P w w'
/-- What is asked of the closure. -/
def Steps {σ : Type} (c : Nat) (env : List Value) (B : σ → AT → Bool) (S : σ → AT → σ) (C : Hd → Nat → Bool) (w0 : World) (P : Nat → Option Obj → Prop) (I : Nat → σ → World → Prop) : Prop :=
 ∀ r s W t h v l, I (r + 1) s W → AtIs w0 h v l t → C h l = true → Below w0.heap.size w0 W → Calls Tryz.prog c (Value.agg #[.int .u8 h.h.k, .int .u8 h.h.op, .int .i64 h.h.pl, .int .i64 h.h.n, .string h.h.name, .string h.h.arg, .string h.h.exn, .int .i64 h.rho, .slice v.ra h.rhos.length v.rc, .slice v.ea h.e.length v.ec, .int .u8 h.ty.h.k, .int .i64 h.ty.h.r, .slice v.tea h.ty.h.e.length v.tec, .slice v.tka h.ty.ks.length v.tkc, .int .u8 h.re.h.k, .int .i64 h.re.h.r, .slice v.sea h.re.h.e.length v.sec, .slice v.ska h.re.ks.length v.skc, .slice v.ka l v.kc] :: env).toArray W (FoEnd P (I r) (B s t, S s t) W)
/-- A row of terms: its cells may lie in newer memory. -/
def RowS (w0 W : World) (p : Option Addr) (ts : List AT) : Prop := ∀ i, i < ts.length → ∃ b o v, p = some ⟨b, o, none⟩ ∧ AtIs w0 (tget ts i).h v (tget ts i).ks.length (tget ts i) ∧ W.rangeAt b (o + i * 19) (acells (tget ts i).h v (tget ts i).ks.length)
theorem rowS_kids {w0 W : World} {p : Option Addr} {ts : List AT} (h : Kids w0 p ts) (hb : Below w0.heap.size w0 W) : RowS w0 W p ts := fun i hi => by
 obtain ⟨b, o, v, h1, h2, h3⟩ := h.load i hi
 exact ⟨b, o, v, h1, h2, range_below h3 hb⟩
theorem wts_drop' (ts : List AT) (j : Nat) (hj : j < ts.length) : wts (ts.drop j) = wts (tget ts j).ks + 1 + wts (ts.drop (j + 1)) := by
 rw [wts_drop ts j hj, wt_ks]
/-- A term that is loaded behind a guard that is met. -/
theorem at_load_g {ops : Array Oper} {rest : List Oper} {op : Oper} {a : Act} {w : World} {Q : Exit → Act → World → Prop} (hw : Region.wanted op (yielded ops a.tmps) = true) (x : Operand) (ho : op.op = .load 31 x)
  (b o : Nat) (hx : a.eval x = .pointer (some ⟨b, o, none⟩)) {h : Hd} {v : V} {l : Nat} (hr : w.rangeAt b o (acells h v l))
  (k : wpList Tryz.prog ops Q rest (a.put op.dst (.agg #[.int .u8 h.h.k, .int .u8 h.h.op, .int .i64 h.h.pl, .int .i64 h.h.n, .string h.h.name, .string h.h.arg, .string h.h.exn, .int .i64 h.rho, .slice v.ra h.rhos.length v.rc, .slice v.ea h.e.length v.ec, .int .u8 h.ty.h.k, .int .i64 h.ty.h.r, .slice v.tea h.ty.h.e.length v.tec, .slice v.tka h.ty.ks.length v.tkc, .int .u8 h.re.h.k, .int .i64 h.re.h.r, .slice v.sea h.re.h.e.length v.sec, .slice v.ska h.re.ks.length v.skc, .slice v.ka l v.kc])) w) : wpList Tryz.prog ops Q (op :: rest) a w := by
 rw [wpList, if_pos hw]
 exact .inl (wp_load_mid 31 x ho b o hx (acells h v l) _ hr Tryz.underlying31 rfl atInfo k)
/-- A term that is laid into a block that was made last. -/
theorem at_store {ops : Array Oper} {rest : List Oper} {op : Oper} {a : Act} {w0 : World} {Q : Exit → Act → World → Prop} (hgd : op.guard = none) (x y : Operand) (ho : op.op = .store 31 x y) (c : Array Value) (hc : c.size = 19)
  (h : Hd) (v : V) (l : Nat) (hx : a.eval x = .pointer (some ⟨w0.heap.size, 0, none⟩)) (hy : a.eval y = .agg #[.int .u8 h.h.k, .int .u8 h.h.op, .int .i64 h.h.pl, .int .i64 h.h.n, .string h.h.name, .string h.h.arg, .string h.h.exn, .int .i64 h.rho, .slice v.ra h.rhos.length v.rc, .slice v.ea h.e.length v.ec, .int .u8 h.ty.h.k, .int .i64 h.ty.h.r, .slice v.tea h.ty.h.e.length v.tec, .slice v.tka h.ty.ks.length v.tkc, .int .u8 h.re.h.k, .int .i64 h.re.h.r, .slice v.sea h.re.h.e.length v.sec, .slice v.ska h.re.ks.length v.skc, .slice v.ka l v.kc])
  (k : wpList Tryz.prog ops Q rest (a.put op.dst undef) (w0.alloc (.cells #[.int .u8 h.h.k, .int .u8 h.h.op, .int .i64 h.h.pl, .int .i64 h.h.n, .string h.h.name, .string h.h.arg, .string h.h.exn, .int .i64 h.rho, .slice v.ra h.rhos.length v.rc, .slice v.ea h.e.length v.ec, .int .u8 h.ty.h.k, .int .i64 h.ty.h.r, .slice v.tea h.ty.h.e.length v.tec, .slice v.tka h.ty.ks.length v.tkc, .int .u8 h.re.h.k, .int .i64 h.re.h.r, .slice v.sea h.re.h.e.length v.sec, .slice v.ska h.re.ks.length v.skc, .slice v.ka l v.kc] 31))) : wpList Tryz.prog ops Q (op :: rest) a (w0.alloc (.cells c 31)) :=
 wpList_plain hgd fun _ hK => by
  have hst := run_storeVar_new (P := Tryz.prog) w0 31 c #[.int .u8 h.h.k, .int .u8 h.h.op, .int .i64 h.h.pl, .int .i64 h.h.n, .string h.h.name, .string h.h.arg, .string h.h.exn, .int .i64 h.rho, .slice v.ra h.rhos.length v.rc, .slice v.ea h.e.length v.ec, .int .u8 h.ty.h.k, .int .i64 h.ty.h.r, .slice v.tea h.ty.h.e.length v.tec, .slice v.tka h.ty.ks.length v.tkc, .int .u8 h.re.h.k, .int .i64 h.re.h.r, .slice v.sea h.re.h.e.length v.sec, .slice v.ska h.re.ks.length v.skc, .slice v.ka l v.kc] atInfo hc (all_oneCell_toArray (cs := acells h v l) (fun u hu => by
   simp [acells] at hu
   rcases hu with rfl | rfl | rfl | rfl | rfl | rfl | rfl | rfl | rfl | rfl | rfl | rfl | rfl | rfl | rfl | rfl | rfl | rfl | rfl <;> rfl))
  unfold Oper.wp execOp
  simp only [ho, hx, hy, Instr.storeAt, Instr.sureAddr, Sem.run_bind, Sem.run_pure, Result.andThen_ok, hst]
  exact hK _ _ k
end Aterm
end Go.Proofs.YtfncpcijfphngaaGreatDoor
namespace Go.Proofs.YtfncpcijfphngaaGreatDoor
open Go.RowKit
set_option linter.unusedVariables false
set_option linter.unusedSimpArgs false
namespace Aterm
open Rt (box_new box_at below_then)
open Effect (ret_bool ret_i64 lt_of_block heap_alloc_new)

set_option maxRecDepth 10000 in
set_option maxHeartbeats 6400000 in
theorem allMay_walk {σ : Type} (B : σ → AT → Bool) (S : σ → AT → σ) (C : Hd → Nat → Bool) (w0 : World) (P : Nat → Option Obj → Prop) (K0 : Nat) (I : Nat → σ → World → Prop) (hI : Goes w0 P I) (hC : Steps 37 [.pointer (some ⟨K0, 0, none⟩)] B S C w0 P I) :
  ∀ (m : Nat) (ts : List AT) (p : Option Addr) (l d r : Nat) (s : σ) (w : World), wts ts ≤ m → ts.length = l → l ≤ maxLen → (∀ W, Tch P w W → RowS w0 W p ts) → Below w0.heap.size w0 w → allK C ts = true → I (r + wts ts) s w →
  Calls Tryz.prog 36 #[.func (.func 37) #[] #[.pointer (some ⟨K0, 0, none⟩)], .slice p l d] w (FoEnd P (I r) (foK B S ts s) w) := by
 have GI := Lib.hid hI; have GC := Lib.hid hC
 clear hI hC
 intro m
 induction m using Nat.strongRecOn with
 | _ m ih =>
  intro ts p l d r s w hm hl hlm hk hb00 hcc hi
  unfold maxLen at hlm
  have HM := Lib.hid hm; have HL := Lib.hid hl; have HK := Lib.hid hk; have HI := Lib.hid hi; have IH := Lib.hid ih; have HB00 := Lib.hid hb00; have HCC := Lib.hid hcc
  clear hm hl hk hi ih hb00 hcc
  go_enter Tryz.func36, Tryz.ntmps36
  go_wp2_with (fail)
  go_loopw [6, 9] (fun _ i wr => ∃ (j : Nat) (u : σ), j ≤ l ∧ i = .int .i64 j ∧ Hid (foK B S ts s = foK B S (ts.drop j) u) ∧ Hid (I (r + wts (ts.drop j)) u wr) ∧ Hid (Tch P w wr)) (fun _ i _ => l - (intOf i).toNat)
  case atStart => exact ⟨0, s, Nat.zero_le _, rfl, Lib.hid (by rw [List.drop_zero]), Lib.hid (by rw [List.drop_zero]; exact HI.out), Lib.hid (Tch.refl _)⟩
  case round =>
   obtain ⟨j, u, hj, rfl, HF, HJ, HS⟩ := hrel
   by_cases hlt : j < l
   ·have hjk : j < ts.length := by rw [HL.out]; exact hlt
    obtain ⟨b, o, v, rfl, hkid, hrg⟩ := HK.out wr HS.out j hjk
    have hbr : Below w0.heap.size w0 wr := HS.out.below GI.out.low HB00.out (Nat.le_refl _)
    have hcj := allK_get _ hjk HCC.out
    rw [allT_eq, Bool.and_eq_true] at hcj
    have hwd := wts_drop' ts j hjk
    have hwm : wts (tget ts j).ks < wts ts := by have h1 := wts_get hjk; have h2 := wt_ks (tget ts j); omega
    have hin : I ((r + wts (ts.drop (j + 1))) + wts (tget ts j).ks + 1) u wr := GI.out.less _ _ _ _ HJ.out (by omega)
    have hnew := GI.out.new _ _ _ HJ.out
    have HJK := Lib.hid hjk; have HKID := Lib.hid hkid; have HWM := Lib.hid hwm; have HIN := Lib.hid hin; have HRG := Lib.hid hrg; have HBR := Lib.hid hbr; have HCJ := Lib.hid hcj; have HNEW := Lib.hid hnew
    clear hjk hkid hwd hwm hin hrg hbr hcj hnew
    go_upto_region 4 with (first | refine at_load rfl _ rfl b (o + j * 19) rfl HRG.out ?_ | refine at_store rfl _ _ rfl _ rfl (tget ts j).h v (tget ts j).ks.length rfl rfl ?_)
    obtain ⟨W0, hW0⟩ : ∃ W0, W0 = wr.alloc (.cells #[.int .u8 (tget ts j).h.h.k, .int .u8 (tget ts j).h.h.op, .int .i64 (tget ts j).h.h.pl, .int .i64 (tget ts j).h.h.n, .string (tget ts j).h.h.name, .string (tget ts j).h.h.arg, .string (tget ts j).h.h.exn, .int .i64 (tget ts j).h.rho, .slice v.ra (tget ts j).h.rhos.length v.rc, .slice v.ea (tget ts j).h.e.length v.ec, .int .u8 (tget ts j).h.ty.h.k, .int .i64 (tget ts j).h.ty.h.r, .slice v.tea (tget ts j).h.ty.h.e.length v.tec, .slice v.tka (tget ts j).h.ty.ks.length v.tkc, .int .u8 (tget ts j).h.re.h.k, .int .i64 (tget ts j).h.re.h.r, .slice v.sea (tget ts j).h.re.h.e.length v.sec, .slice v.ska (tget ts j).h.re.ks.length v.skc, .slice v.ka (tget ts j).ks.length v.kc] 31) := ⟨_, rfl⟩
    have hbx : Box W0 wr.heap.size (tget ts j).h v (tget ts j).ks.length := by rw [hW0]; exact box_of (w := wr) (h := (tget ts j).h) (v := v) (l := (tget ts j).ks.length)
    have hb0 : Below wr.heap.size wr W0 := by rw [hW0]; exact box_new _
    have hnp : ¬ P wr.heap.size W0.heap[wr.heap.size]? := by
     rw [hW0, heap_alloc_new]
     exact HNEW.out _ _
    rw [← hW0]
    clear hW0
    have HSA := Lib.hid (HS.out.trans (Tch.of_below hb0))
    have HST := Lib.hid (GI.out.keep _ _ _ _ HIN.out hb0); have HBR0 := Lib.hid (below_then HBR.out hb0 HBR.out.size)
    generalize hN0 : wr.heap.size = N0 at hbx hnp ⊢
    have HNP := Lib.hid hnp; have HBX := Lib.hid hbx; have HRB := Lib.hid hbx.range
    clear hb0 hN0 hbx hnp
    go_wp2_with (refine at_load rfl _ rfl N0 0 rfl HRB.out ?_)
    refine (GC.out _ _ _ (tget ts j) (tget ts j).h v (tget ts j).ks.length HST.out HKID.out HCJ.out.1 HBR0.out).mono ?_
    rintro e w1 ⟨rfl, hi1, hs1⟩
    obtain ⟨b0, b1, b2, b3, b4, b5, b6, b7, b8, b9, b10, b11, b12, b13, b14, b15, b16, b17, b18⟩ := hs1.box HBX.out HNP.out
    clear b0 b1 b2 b3 b4 b5 b6 b7 b8 b9 b10 b11 b12 b13 b14 b15 b16 b17
    have HI1 := Lib.hid hi1
    have HS1 := Lib.hid (HSA.out.trans hs1)
    clear hi1 hs1
    cases hb : B u (tget ts j)
    ·have hno := foK_no B S HJK.out hb
     have hi2 := GI.out.less _ r _ _ HI1.out (by omega)
     have HNO := Lib.hid hno; have HB := Lib.hid hb; have HI2 := Lib.hid hi2
     clear hno hb hi2
     go_wp2_with (fail)
     go_ret
     exact ⟨ret_bool (by rw [HF.out, HNO.out]), by rw [HF.out, HNO.out]; exact HI2.out, HS1.out⟩
    ·have HB := Lib.hid hb
     clear hb
     go_wp2_with (fail)
     refine (IH.out (wts (tget ts j).ks) (by have := HWM.out; have := HM.out; omega) (tget ts j).ks v.ka _ v.kc (r + wts (ts.drop (j + 1))) _ _ (Nat.le_refl _) rfl (Nat.le_trans HKID.out.cap.1 HKID.out.cap.2) (fun W hW => rowS_kids HKID.out.kids ((HS1.out.trans hW).below GI.out.low HB00.out (Nat.le_refl _))) (HS1.out.below GI.out.low HB00.out (Nat.le_refl _)) HCJ.out.2 HI1.out).mono ?_
     rintro e w2 ⟨rfl, hi3, hs3⟩
     have HI3 := Lib.hid hi3
     have HS3 := Lib.hid (HS1.out.trans hs3)
     clear hi3 hs3 b18
     cases hk : (foK B S (tget ts j).ks (S u (tget ts j))).1
     ·have hno := foK_kno B S HJK.out HB.out hk
      have hi4 := GI.out.less _ r _ _ HI3.out (by omega)
      have HNO := Lib.hid hno; have HKB := Lib.hid hk; have HI4 := Lib.hid hi4
      clear hno hk hi4
      go_wp2_with (fail)
      go_ret
      exact ⟨ret_bool (by rw [HF.out, HNO.out]), by rw [HF.out, HNO.out]; exact HI4.out, HS3.out⟩
     ·have hyes := foK_yes B S HJK.out HB.out hk
      have HYES := Lib.hid hyes; have HKB := Lib.hid hk
      clear hyes hk
      go_wp2_with (fail)
      go_roundw
      case rel => exact ⟨j + 1, _, by omega, by go_num, Lib.hid (HF.out.trans HYES.out), HI3, HS3⟩
      case measure => simp [intOf]; omega
   ·obtain rfl : j = l := by omega
    have hr := HF.out
    have hi := HJ.out
    rw [List.drop_eq_nil_of_le (by rw [HL.out]; exact Nat.le_refl _)] at hr hi
    rw [foK_nil] at hr
    rw [wts_nil] at hi
    have HR := Lib.hid hr; have HI2 := Lib.hid hi
    clear hr hi
    go_wp2_with (fail)
    go_ret
    exact ⟨ret_bool (by rw [HR.out]), by rw [HR.out]; exact HI2.out, HS.out⟩
end Aterm
end Go.Proofs.YtfncpcijfphngaaGreatDoor
namespace Go.Proofs.YtfncpcijfphngaaGreatDoor
open Go.RowKit
set_option linter.unusedVariables false
set_option linter.unusedSimpArgs false
namespace Aterm
open Effect (RdI nget nget_at nget_mem ret_bool ret_i64 lt_of_block heap_alloc_new ofA)
open Rt (box_new box_at below_then)

theorem row_one {w0 W : World} {t : AT} {h : Hd} {v : V} {l g : Nat} (hT : AtIs w0 h v l t) (hr : W.rangeAt g 0 (acells h v l)) : RowS w0 W (some ⟨g, 0, none⟩) [t] := by
 obtain ⟨h1, h2, h3, h4, h5⟩ := hT
 subst h1 h2
 intro i hi
 have hi0 : i = 0 := by simp at hi; omega
 subst hi0
 exact ⟨g, 0, v, rfl, ⟨rfl, rfl, h3, h4, h5⟩, by rw [Nat.zero_mul, Nat.add_zero]; exact hr⟩
theorem allK_of1 (B : Hd → Nat → Bool) (t : AT) : allK B [t] = allT B t := by rw [allK_cons, allK_nil, Bool.and_true]
theorem row_new {W : World} {N : Nat} (hN : N = W.heap.size) {h : Hd} {v : V} {l : Nat} {ty : TypeId} : (W.alloc (.cells #[.int .u8 h.h.k, .int .u8 h.h.op, .int .i64 h.h.pl, .int .i64 h.h.n, .string h.h.name, .string h.h.arg, .string h.h.exn, .int .i64 h.rho, .slice v.ra h.rhos.length v.rc, .slice v.ea h.e.length v.ec, .int .u8 h.ty.h.k, .int .i64 h.ty.h.r, .slice v.tea h.ty.h.e.length v.tec, .slice v.tka h.ty.ks.length v.tkc, .int .u8 h.re.h.k, .int .i64 h.re.h.r, .slice v.sea h.re.h.e.length v.sec, .slice v.ska h.re.ks.length v.skc, .slice v.ka l v.kc] ty)).rangeAt N 0 (acells h v l) := by
 subst hN
 exact box_of.range
end Aterm
end Go.Proofs.YtfncpcijfphngaaGreatDoor
namespace Go.Proofs.YtfncpcijfphngaaGreatDoor
open Go.RowKit
set_option linter.unusedVariables false
set_option linter.unusedSimpArgs false
namespace Aterm
open Effect (RdI nget nget_at nget_mem ret_bool ret_i64 lt_of_block heap_alloc_new ofA)
open Rt (box_new box_at below_then)

theorem from1_walk (N : Nat) (x least : Int) (W : World) (hc : W.cell? ⟨N, 0, none⟩ = some (.int .i64 least)) :
  Calls Tryz.prog 101 #[.int .i64 x, .pointer (some ⟨N, 0, none⟩)] W fun e W' => e = .returned (.bool (decide (x < least))) ∧ W' = W := by
 go_enter Tryz.func101, Tryz.ntmps101
 go_wp2
 go_ret
 exact ⟨rfl, rfl⟩
set_option maxRecDepth 10000 in
set_option maxHeartbeats 3200000 in
theorem indexFrom_walk {n c : Nat} {a : Option Addr} {l : List Int} {w : World} (h : RdI w n a l) (hn : n ≤ 100000) (N : Nat) (least : Int) (hc : w.cell? ⟨N, 0, none⟩ = some (.int .i64 least)) :
  Calls Tryz.prog 121 #[.slice a n c, .func (.func 101) #[] #[.pointer (some ⟨N, 0, none⟩)]] w fun e w' => ∃ i : Int, e = .returned (.int .i64 i) ∧ (0 ≤ i ↔ ∃ x ∈ l, x < least) ∧ -1 ≤ i ∧ i ≤ 100000 ∧ w' = w := by
 have H := Lib.hid h; have HC := Lib.hid hc
 clear h hc
 go_enter Tryz.func121, Tryz.ntmps121
 go_wp2_with (fail)
 go_loopw [5, 8] (fun _ i wr => ∃ j : Nat, j ≤ n ∧ i = .int .i64 (j : Int) ∧ Hid (wr = w) ∧ Hid (∀ i, i < j → least ≤ nget l i)) (fun _ i _ => n - (intOf i).toNat)
 case atStart => exact ⟨0, Nat.zero_le _, rfl, Lib.hid rfl, Lib.hid (fun i hi => absurd hi (Nat.not_lt_zero _))⟩
 case round =>
  obtain ⟨j, hj, rfl, HW, HA⟩ := hrel
  by_cases hlt : j < n
  ·have hjl : j < l.length := by rw [H.out.len]; exact hlt
   obtain ⟨b1, o1, rfl, e0⟩ := H.out.get j hjl
   rw [← HW.out] at e0
   have hf := from1_walk N (nget l j) least wr (by rw [HW.out]; exact HC.out)
   have HF := Lib.hid hf; have HJL := Lib.hid hjl
   clear hf hjl
   go_wp2_with (fail)
   refine HF.out.mono ?_
   rintro e wx ⟨rfl, hw⟩
   obtain rfl := hw.symm
   clear hw
   by_cases hx : nget l j < least
   ·rw [decide_eq_true hx]
    have HX := Lib.hid hx
    clear hx
    go_wp2_with (fail)
    go_ret
    exact ⟨j, rfl, ⟨fun _ => ⟨_, nget_mem HJL.out, HX.out⟩, fun _ => by omega⟩, by omega, by omega, HW.out⟩
   ·rw [decide_eq_false hx]
    have HX := Lib.hid hx
    clear hx
    go_wp2_with (fail)
    go_roundw
    case rel => exact ⟨j + 1, by omega, by go_num, HW, Lib.hid fun i hi => by
      by_cases e : i = j
      ·rw [e]; have := HX.out; omega
      ·exact HA.out i (by omega)⟩
    case measure => simp [intOf]; omega
  ·obtain rfl : j = n := by omega
   go_wp2_with (fail)
   go_ret
   refine ⟨-1, rfl, ⟨fun h => by omega, ?_⟩, by omega, by omega, HW.out⟩
   rintro ⟨x, hx, hl⟩
   obtain ⟨i, hi, e⟩ := List.mem_iff_getElem.1 hx
   have h1 := HA.out i (by rw [← H.out.len]; exact hi)
   have := nget_at hi
   rw [List.getElem?_eq_getElem hi, e] at this
   rw [← Option.some.inj this] at h1
   omega
theorem containsFrom_walk {n c : Nat} {a : Option Addr} {l : List Int} {w : World} (h : RdI w n a l) (hn : n ≤ 100000) (N : Nat) (least : Int) (hc : w.cell? ⟨N, 0, none⟩ = some (.int .i64 least)) :
  Calls Tryz.prog 100 #[.slice a n c, .func (.func 101) #[] #[.pointer (some ⟨N, 0, none⟩)]] w fun e w' => e = .returned (.bool (decide (∃ x ∈ l, x < least))) ∧ w' = w := by
 have H := Lib.hid (indexFrom_walk (c := c) h hn N least hc)
 clear h hc
 go_enter Tryz.func100, Tryz.ntmps100
 go_wp2_with (fail)
 refine H.out.mono ?_
 rintro e wx ⟨i, rfl, hi, hi1, hi2, hw⟩
 obtain rfl := hw.symm
 clear hw
 have hd : decide (∃ x ∈ l, x < least) = decide (0 ≤ i) := decide_eq_decide.2 hi.symm
 have HD := Lib.hid hd
 clear hd hi
 go_wp2_with (fail)
 go_ret
 exact ⟨ret_bool HD.out.symm, rfl⟩
theorem from_walk {n c : Nat} {a : Option Addr} {l : List Int} {w : World} (h : RdI w n a l) (hn : n ≤ 100000) (least : Int) :
  Calls Tryz.prog 78 #[.int .i64 least, .slice a n c] w fun e w' => e = .returned (.bool (decide (∀ x ∈ l, least ≤ x))) ∧ Below w.heap.size w w' := by
 have hb : Below w.heap.size w (w.alloc (.cells #[.int .i64 least] 3)) := box_new _
 have H := Lib.hid (containsFrom_walk (c := c) (h.below hb) hn w.heap.size least (box_at (Below.refl _ _) 0 rfl)); have HB := Lib.hid hb
 have hd : decide (∀ x ∈ l, least ≤ x) = !decide (∃ x ∈ l, x < least) := by
  by_cases hx : ∃ x ∈ l, x < least
  ·rw [decide_eq_true hx, decide_eq_false]
   ·rfl
   ·intro ha
    obtain ⟨x, h1, h2⟩ := hx
    have := ha x h1
    omega
  ·rw [decide_eq_false hx, decide_eq_true]
   ·rfl
   ·intro x h1
    by_cases hl : x < least
    ·exact absurd ⟨x, h1, hl⟩ hx
    ·omega
 have HD := Lib.hid hd
 clear h hb hd
 go_enter Tryz.func78, Tryz.ntmps78
 go_wp2_with (fail)
 refine H.out.mono ?_
 rintro e wx ⟨rfl, hw⟩
 obtain rfl := hw.symm
 clear hw
 go_wp2_with (fail)
 go_ret
 exact ⟨ret_bool HD.out.symm, HB.out⟩
end Aterm
end Go.Proofs.YtfncpcijfphngaaGreatDoor
namespace Go.Proofs.YtfncpcijfphngaaGreatDoor
open Go.RowKit
set_option linter.unusedVariables false
set_option linter.unusedSimpArgs false
namespace Aterm
open Effect (RdI nget nget_at nget_mem ret_bool ret_i64 lt_of_block heap_alloc_new ofA)
open Rt (box_new box_at below_then)

set_option maxRecDepth 10000 in
theorem none_walk (t : Rt.RT) (pe : Option Addr) (ce : Nat) (p : Option Addr) (c : Nat) (w : World) (hl : t.ks.length ≤ 9223372036854775807) (he : t.h.e.length ≤ 9223372036854775807) :
  Calls Tryz.prog 82 #[.agg #[.int .u8 t.h.k, .int .i64 t.h.r, .slice pe t.h.e.length ce, .slice p t.ks.length c]] w fun e w' => e = .returned (.bool (plainB t)) ∧ Below w.heap.size w w' := by
 have hp : plainB t = decide (t.h.k = 0 ∧ t.h.r = 0 ∧ t.h.e.length = 0 ∧ t.ks.length = 0) := rfl
 have hbox : ∀ O : Obj, Below w.heap.size w (w.alloc O) := fun O => box_new O
 have HBOX := Lib.hid hbox
 clear hbox
 generalize t.h.e.length = n at *
 generalize t.ks.length = l at *
 generalize t.h.k = k at *
 generalize t.h.r = r at *
 generalize plainB t = B at *
 by_cases h1 : k = 0
 ·subst h1
  by_cases h2 : r = 0
  ·subst h2
   by_cases h3 : n = 0
   ·subst h3
    by_cases h4 : l = 0
    ·subst h4
     have HP := Lib.hid (show B = true by rw [hp]; simp)
     clear hp
     go_enter Tryz.func82, Tryz.ntmps82
     go_wp2_with (fail)
     go_ret
     exact ⟨ret_bool HP.out.symm, HBOX.out _⟩
    ·have HP := Lib.hid (show B = false by rw [hp]; simp [h4])
     have hx : ((l : Int) == 0) = false := by rw [beq_eq_false_iff_ne]; omega
     clear hp h4
     go_enter Tryz.func82, Tryz.ntmps82
     go_wp2_with (fail)
     go_ret
     exact ⟨ret_bool HP.out.symm, HBOX.out _⟩
   ·have HP := Lib.hid (show B = false by rw [hp]; simp [h3])
    have hx : ((n : Int) == 0) = false := by rw [beq_eq_false_iff_ne]; omega
    clear hp h3
    go_enter Tryz.func82, Tryz.ntmps82
    go_wp2_with (fail)
    go_ret
    exact ⟨ret_bool HP.out.symm, HBOX.out _⟩
  ·have HP := Lib.hid (show B = false by rw [hp]; simp [h2])
   have hx : (r == 0) = false := by simpa using h2
   clear hp h2
   go_enter Tryz.func82, Tryz.ntmps82
   go_wp2_with (fail)
   go_ret
   exact ⟨ret_bool HP.out.symm, HBOX.out _⟩
 ·have HP := Lib.hid (show B = false by rw [hp]; simp [h1])
  have hx : (k == 0) = false := by simpa using h1
  clear hp h1
  go_enter Tryz.func82, Tryz.ntmps82
  go_wp2_with (fail)
  go_ret
  exact ⟨ret_bool HP.out.symm, HBOX.out _⟩

theorem of_not {a b : Int} (h : ¬ a = b) : (a == b) = false := by simpa using h
set_option maxRecDepth 10000 in
set_option maxHeartbeats 3200000 in
theorem rhoFits_walk (t : AT) (h : Hd) (v : V) (l : Nat) (w : World) (hT : AtIs w h v l t) :
  Calls Tryz.prog 58 #[.agg #[.int .u8 h.h.k, .int .u8 h.h.op, .int .i64 h.h.pl, .int .i64 h.h.n, .string h.h.name, .string h.h.arg, .string h.h.exn, .int .i64 h.rho, .slice v.ra h.rhos.length v.rc, .slice v.ea h.e.length v.ec, .int .u8 h.ty.h.k, .int .i64 h.ty.h.r, .slice v.tea h.ty.h.e.length v.tec, .slice v.tka h.ty.ks.length v.tkc, .int .u8 h.re.h.k, .int .i64 h.re.h.r, .slice v.sea h.re.h.e.length v.sec, .slice v.ska h.re.ks.length v.skc, .slice v.ka l v.kc]] w fun e w' => e = .returned (.bool (rhoOk h)) ∧ Below w.heap.size w w' := by
 have hrho := hT.ok.rho
 have hr : rhoOk h = if h.h.k = 3 ∨ h.h.k = 6 ∨ h.h.k = 11 ∨ h.h.k = 13 ∨ h.h.k = 18 then decide (0 ≤ h.rho) else if h.h.k = 17 then decide (1 ≤ h.rho) else decide (h.rho = 0) := rfl
 have hone : ∀ (N : Nat) (W : World), N = W.heap.size → RdI (W.alloc (.cells #[.int .i64 h.rho] 3)) 1 (some ⟨N, 0, none⟩) [h.rho] := fun N W e => rd_one e hrho
 have hl0 : decide (∀ x ∈ [h.rho], 0 ≤ x) = decide (0 ≤ h.rho) := by simp
 have hl1 : decide (∀ x ∈ [h.rho], 1 ≤ x) = decide (1 ≤ h.rho) := by simp
 have HONE := Lib.hid hone; have HL0 := Lib.hid hl0; have HL1 := Lib.hid hl1
 clear hT hrho hone hl0 hl1
 by_cases h1 : h.h.k = 3 ∨ h.h.k = 6 ∨ h.h.k = 11 ∨ h.h.k = 13 ∨ h.h.k = 18
 ·rw [if_pos h1] at hr
  have HR := Lib.hid hr
  clear hr
  rcases h1 with hk | hk | hk | hk | hk
  all_goals
   have HK := Lib.hid hk
   clear hk
   go_enter Tryz.func58, Tryz.ntmps58
   go_upto_region 1 with (fail)
   obtain ⟨W0, hW0⟩ : ∃ W0, W0 = w.alloc (.cells #[.int .u8 h.h.k, .int .u8 h.h.op, .int .i64 h.h.pl, .int .i64 h.h.n, .string h.h.name, .string h.h.arg, .string h.h.exn, .int .i64 h.rho, .slice v.ra h.rhos.length v.rc, .slice v.ea h.e.length v.ec, .int .u8 h.ty.h.k, .int .i64 h.ty.h.r, .slice v.tea h.ty.h.e.length v.tec, .slice v.tka h.ty.ks.length v.tkc, .int .u8 h.re.h.k, .int .i64 h.re.h.r, .slice v.sea h.re.h.e.length v.sec, .slice v.ska h.re.ks.length v.skc, .slice v.ka l v.kc] 31) := ⟨_, rfl⟩
   have hbx : Box W0 w.heap.size h v l := by rw [hW0]; exact box_of (w := w) (h := h) (v := v) (l := l)
   have hb0 : Below w.heap.size w W0 := by rw [hW0]; exact box_new _
   rw [← hW0]
   clear hW0
   generalize hN0 : w.heap.size = N0 at hbx ⊢
   have HB0 := Lib.hid hb0; have HBX := Lib.hid hbx
   obtain ⟨b0, b1, b2, b3, b4, b5, b6, b7, b8, b9, b10, b11, b12, b13, b14, b15, b16, b17, b18⟩ := hbx
   clear hb0 hN0 b1 b2 b3 b4 b5 b6 b8 b9 b10 b11 b12 b13 b14 b15 b16 b17 b18
   rw [HK.out] at b0
   go_wp2_with (fail)
   refine (from_walk (c := 1) (HONE.out _ W0 rfl) (by omega) 0).mono ?_
   rintro e w1 ⟨rfl, hb1⟩
   have HB1 := Lib.hid (HB0.out.trans (((box_new _).trans (hb1.mono (by simp))).mono HB0.out.size))
   clear hb1 b0 b7
   rw [HL0.out]
   go_wp2_with (fail)
   go_ret
   exact ⟨ret_bool HR.out.symm, HB1.out⟩
 ·rw [if_neg h1] at hr
  have k3 : ¬ h.h.k = 3 := fun e => h1 (.inl e)
  have k6 : ¬ h.h.k = 6 := fun e => h1 (.inr (.inl e))
  have k11 : ¬ h.h.k = 11 := fun e => h1 (.inr (.inr (.inl e)))
  have k13 : ¬ h.h.k = 13 := fun e => h1 (.inr (.inr (.inr (.inl e))))
  have k18 : ¬ h.h.k = 18 := fun e => h1 (.inr (.inr (.inr (.inr e))))
  clear h1
  by_cases h2 : h.h.k = 17
  ·rw [if_pos h2] at hr
   have HR := Lib.hid hr; have HK := Lib.hid h2
   clear hr h2 k3 k6 k11 k13 k18
   go_enter Tryz.func58, Tryz.ntmps58
   go_upto_region 1 with (fail)
   obtain ⟨W0, hW0⟩ : ∃ W0, W0 = w.alloc (.cells #[.int .u8 h.h.k, .int .u8 h.h.op, .int .i64 h.h.pl, .int .i64 h.h.n, .string h.h.name, .string h.h.arg, .string h.h.exn, .int .i64 h.rho, .slice v.ra h.rhos.length v.rc, .slice v.ea h.e.length v.ec, .int .u8 h.ty.h.k, .int .i64 h.ty.h.r, .slice v.tea h.ty.h.e.length v.tec, .slice v.tka h.ty.ks.length v.tkc, .int .u8 h.re.h.k, .int .i64 h.re.h.r, .slice v.sea h.re.h.e.length v.sec, .slice v.ska h.re.ks.length v.skc, .slice v.ka l v.kc] 31) := ⟨_, rfl⟩
   have hbx : Box W0 w.heap.size h v l := by rw [hW0]; exact box_of (w := w) (h := h) (v := v) (l := l)
   have hb0 : Below w.heap.size w W0 := by rw [hW0]; exact box_new _
   rw [← hW0]
   clear hW0
   generalize hN0 : w.heap.size = N0 at hbx ⊢
   have HB0 := Lib.hid hb0; have HBX := Lib.hid hbx
   obtain ⟨b0, b1, b2, b3, b4, b5, b6, b7, b8, b9, b10, b11, b12, b13, b14, b15, b16, b17, b18⟩ := hbx
   clear hb0 hN0 b1 b2 b3 b4 b5 b6 b8 b9 b10 b11 b12 b13 b14 b15 b16 b17 b18
   rw [HK.out] at b0
   go_wp2_with (fail)
   refine (from_walk (c := 1) (HONE.out _ W0 rfl) (by omega) 1).mono ?_
   rintro e w1 ⟨rfl, hb1⟩
   have HB1 := Lib.hid (HB0.out.trans (((box_new _).trans (hb1.mono (by simp))).mono HB0.out.size))
   clear hb1 b0 b7
   rw [HL1.out]
   go_wp2_with (fail)
   go_ret
   exact ⟨ret_bool HR.out.symm, HB1.out⟩
  ·rw [if_neg h2] at hr
   have e3 := of_not k3; have e6 := of_not k6; have e11 := of_not k11; have e13 := of_not k13; have e18 := of_not k18; have e17 := of_not h2
   clear k3 k6 k11 k13 k18 h2
   have hd : decide (h.rho = 0) = (h.rho == 0) := by by_cases e : h.rho = 0 <;> simp [e]
   have HR := Lib.hid (hr.trans hd)
   clear hr hd
   go_enter Tryz.func58, Tryz.ntmps58
   go_upto_region 1 with (fail)
   obtain ⟨W0, hW0⟩ : ∃ W0, W0 = w.alloc (.cells #[.int .u8 h.h.k, .int .u8 h.h.op, .int .i64 h.h.pl, .int .i64 h.h.n, .string h.h.name, .string h.h.arg, .string h.h.exn, .int .i64 h.rho, .slice v.ra h.rhos.length v.rc, .slice v.ea h.e.length v.ec, .int .u8 h.ty.h.k, .int .i64 h.ty.h.r, .slice v.tea h.ty.h.e.length v.tec, .slice v.tka h.ty.ks.length v.tkc, .int .u8 h.re.h.k, .int .i64 h.re.h.r, .slice v.sea h.re.h.e.length v.sec, .slice v.ska h.re.ks.length v.skc, .slice v.ka l v.kc] 31) := ⟨_, rfl⟩
   have hbx : Box W0 w.heap.size h v l := by rw [hW0]; exact box_of (w := w) (h := h) (v := v) (l := l)
   have hb0 : Below w.heap.size w W0 := by rw [hW0]; exact box_new _
   rw [← hW0]
   clear hW0
   generalize hN0 : w.heap.size = N0 at hbx ⊢
   have HB0 := Lib.hid hb0; have HBX := Lib.hid hbx
   obtain ⟨b0, b1, b2, b3, b4, b5, b6, b7, b8, b9, b10, b11, b12, b13, b14, b15, b16, b17, b18⟩ := hbx
   clear hb0 hN0 b1 b2 b3 b4 b5 b6 b8 b9 b10 b11 b12 b13 b14 b15 b16 b17 b18
   go_wp2_with (fail)
   go_ret
   exact ⟨ret_bool HR.out.symm, HB0.out⟩

set_option maxRecDepth 10000 in
set_option maxHeartbeats 3200000 in
theorem effFits_walk (t : AT) (h : Hd) (v : V) (l : Nat) (w : World) (hT : AtIs w h v l t) (he : h.e.length ≤ 100000) :
  Calls Tryz.prog 60 #[.agg #[.int .u8 h.h.k, .int .u8 h.h.op, .int .i64 h.h.pl, .int .i64 h.h.n, .string h.h.name, .string h.h.arg, .string h.h.exn, .int .i64 h.rho, .slice v.ra h.rhos.length v.rc, .slice v.ea h.e.length v.ec, .int .u8 h.ty.h.k, .int .i64 h.ty.h.r, .slice v.tea h.ty.h.e.length v.tec, .slice v.tka h.ty.ks.length v.tkc, .int .u8 h.re.h.k, .int .i64 h.re.h.r, .slice v.sea h.re.h.e.length v.sec, .slice v.ska h.re.ks.length v.skc, .slice v.ka l v.kc]] w fun e w' => e = .returned (.bool (effOk h)) ∧ Below w.heap.size w w' := by
 have hr : effOk h = if effK h.h.k = true then decide (h.e = ofA h.e) else decide (h.e.length = 0) := rfl
 have hmay := fun (W : World) (hb : Below w.heap.size w W) => Effect.may_walk (c := v.ec) (hT.ok.eff.below hb).rd he
 have HMAY := Lib.hid hmay
 clear hT hmay
 by_cases h1 : h.h.k = 11 ∨ h.h.k = 13 ∨ h.h.k = 18
 ·rw [if_pos (show effK h.h.k = true from decide_eq_true h1)] at hr
  have HR := Lib.hid hr
  clear hr
  rcases h1 with hk | hk | hk
  all_goals
   have HK := Lib.hid hk
   clear hk
   go_enter Tryz.func60, Tryz.ntmps60
   go_upto_region 1 with (fail)
   obtain ⟨W0, hW0⟩ : ∃ W0, W0 = w.alloc (.cells #[.int .u8 h.h.k, .int .u8 h.h.op, .int .i64 h.h.pl, .int .i64 h.h.n, .string h.h.name, .string h.h.arg, .string h.h.exn, .int .i64 h.rho, .slice v.ra h.rhos.length v.rc, .slice v.ea h.e.length v.ec, .int .u8 h.ty.h.k, .int .i64 h.ty.h.r, .slice v.tea h.ty.h.e.length v.tec, .slice v.tka h.ty.ks.length v.tkc, .int .u8 h.re.h.k, .int .i64 h.re.h.r, .slice v.sea h.re.h.e.length v.sec, .slice v.ska h.re.ks.length v.skc, .slice v.ka l v.kc] 31) := ⟨_, rfl⟩
   have hbx : Box W0 w.heap.size h v l := by rw [hW0]; exact box_of (w := w) (h := h) (v := v) (l := l)
   have hb0 : Below w.heap.size w W0 := by rw [hW0]; exact box_new _
   rw [← hW0]
   clear hW0
   generalize hN0 : w.heap.size = N0 at hbx ⊢
   have HB0 := Lib.hid hb0; have HBX := Lib.hid hbx
   obtain ⟨b0, b1, b2, b3, b4, b5, b6, b7, b8, b9, b10, b11, b12, b13, b14, b15, b16, b17, b18⟩ := hbx
   clear hb0 hN0 b1 b2 b3 b4 b5 b6 b7 b8 b10 b11 b12 b13 b14 b15 b16 b17 b18
   rw [HK.out] at b0
   go_wp2_with (fail)
   refine (HMAY.out W0 HB0.out).mono ?_
   rintro e w1 ⟨rfl, hb1⟩
   have HB1 := Lib.hid (below_then HB0.out hb1 HB0.out.size)
   clear hb1 b0 b9
   generalize decide (h.e = ofA h.e) = X at *
   go_wp2_with (fail)
   go_ret
   exact ⟨ret_bool HR.out.symm, HB1.out⟩
 ·rw [if_neg (by unfold effK; rw [decide_eq_false h1]; exact Bool.false_ne_true)] at hr
  have e11 := of_not (fun e => h1 (.inl e)); have e13 := of_not (fun e => h1 (.inr (.inl e))); have e18 := of_not (fun e => h1 (.inr (.inr e)))
  have hd : decide (h.e.length = 0) = ((h.e.length : Int) == 0) := by
   by_cases e : h.e.length = 0
   ·simp [e]
   ·have : ((h.e.length : Int) == 0) = false := by rw [beq_eq_false_iff_ne]; omega
    rw [this, decide_eq_false e]
  have HR := Lib.hid (hr.trans hd)
  clear hr hd h1
  go_enter Tryz.func60, Tryz.ntmps60
  go_upto_region 1 with (fail)
  obtain ⟨W0, hW0⟩ : ∃ W0, W0 = w.alloc (.cells #[.int .u8 h.h.k, .int .u8 h.h.op, .int .i64 h.h.pl, .int .i64 h.h.n, .string h.h.name, .string h.h.arg, .string h.h.exn, .int .i64 h.rho, .slice v.ra h.rhos.length v.rc, .slice v.ea h.e.length v.ec, .int .u8 h.ty.h.k, .int .i64 h.ty.h.r, .slice v.tea h.ty.h.e.length v.tec, .slice v.tka h.ty.ks.length v.tkc, .int .u8 h.re.h.k, .int .i64 h.re.h.r, .slice v.sea h.re.h.e.length v.sec, .slice v.ska h.re.ks.length v.skc, .slice v.ka l v.kc] 31) := ⟨_, rfl⟩
  have hbx : Box W0 w.heap.size h v l := by rw [hW0]; exact box_of (w := w) (h := h) (v := v) (l := l)
  have hb0 : Below w.heap.size w W0 := by rw [hW0]; exact box_new _
  rw [← hW0]
  clear hW0
  generalize hN0 : w.heap.size = N0 at hbx ⊢
  have HB0 := Lib.hid hb0; have HBX := Lib.hid hbx
  obtain ⟨b0, b1, b2, b3, b4, b5, b6, b7, b8, b9, b10, b11, b12, b13, b14, b15, b16, b17, b18⟩ := hbx
  clear hb0 hN0 b1 b2 b3 b4 b5 b6 b7 b8 b10 b11 b12 b13 b14 b15 b16 b17 b18
  go_wp2_with (fail)
  go_ret
  exact ⟨ret_bool HR.out.symm, HB0.out⟩

theorem allK_rt (B : Rt.Hd → Nat → Bool) (t : Rt.RT) : Rt.allK B [t] = Rt.allT B t := by rw [Rt.allK_cons, Rt.allK_nil, Bool.and_true]
theorem mayK_one (t : Rt.RT) : Rt.mayK [t] = Rt.mayT t := allK_rt _ t
set_option maxRecDepth 10000 in
set_option maxHeartbeats 3200000 in
theorem typeFits_walk (t : AT) (h : Hd) (v : V) (l : Nat) (w : World) (hT : AtIs w h v l t) (he : Rt.allT (Rt.effB 100000) h.ty = true) :
  Calls Tryz.prog 61 #[.agg #[.int .u8 h.h.k, .int .u8 h.h.op, .int .i64 h.h.pl, .int .i64 h.h.n, .string h.h.name, .string h.h.arg, .string h.h.exn, .int .i64 h.rho, .slice v.ra h.rhos.length v.rc, .slice v.ea h.e.length v.ec, .int .u8 h.ty.h.k, .int .i64 h.ty.h.r, .slice v.tea h.ty.h.e.length v.tec, .slice v.tka h.ty.ks.length v.tkc, .int .u8 h.re.h.k, .int .i64 h.re.h.r, .slice v.sea h.re.h.e.length v.sec, .slice v.ska h.re.ks.length v.skc, .slice v.ka l v.kc]] w fun e w' => e = .returned (.bool (typOk h)) ∧ Below w.heap.size w w' := by
 have hr : typOk h = if typK h.h.k = true then Rt.mayT h.ty else plainB h.ty := rfl
 have hty := hT.ok.ty
 have hmay := fun (W : World) (hb : Below w.heap.size w W) (N : Nat) (hN : N = W.heap.size) => Rt.may_walk [h.ty] (some ⟨N, 0, none⟩) 1 1 _ rfl Rt.one_le (Rt.kids_one (hty.below hb) 28 N hN) (by rw [allK_rt]; exact he)
 have hcap := Rt.cap63 hty
 have hnone := fun W => none_walk h.ty v.tea v.tec v.tka v.tkc W hcap.1 hcap.2
 have HMAY := Lib.hid hmay; have HNONE := Lib.hid hnone
 clear hT hmay hnone hcap hty he
 by_cases h1 : h.h.k = 11 ∨ h.h.k = 13 ∨ h.h.k = 15
 ·rw [if_pos (show typK h.h.k = true from decide_eq_true h1), ← mayK_one] at hr
  have HR := Lib.hid hr
  clear hr
  rcases h1 with hk | hk | hk
  all_goals
   have HK := Lib.hid hk
   clear hk
   go_enter Tryz.func61, Tryz.ntmps61
   go_upto_region 1 with (fail)
   obtain ⟨W0, hW0⟩ : ∃ W0, W0 = w.alloc (.cells #[.int .u8 h.h.k, .int .u8 h.h.op, .int .i64 h.h.pl, .int .i64 h.h.n, .string h.h.name, .string h.h.arg, .string h.h.exn, .int .i64 h.rho, .slice v.ra h.rhos.length v.rc, .slice v.ea h.e.length v.ec, .int .u8 h.ty.h.k, .int .i64 h.ty.h.r, .slice v.tea h.ty.h.e.length v.tec, .slice v.tka h.ty.ks.length v.tkc, .int .u8 h.re.h.k, .int .i64 h.re.h.r, .slice v.sea h.re.h.e.length v.sec, .slice v.ska h.re.ks.length v.skc, .slice v.ka l v.kc] 31) := ⟨_, rfl⟩
   have hbx : Box W0 w.heap.size h v l := by rw [hW0]; exact box_of (w := w) (h := h) (v := v) (l := l)
   have hb0 : Below w.heap.size w W0 := by rw [hW0]; exact box_new _
   rw [← hW0]
   clear hW0
   generalize hN0 : w.heap.size = N0 at hbx ⊢
   have HB0 := Lib.hid hb0; have HBX := Lib.hid hbx
   obtain ⟨b0, b1, b2, b3, b4, b5, b6, b7, b8, b9, b10, b11, b12, b13, b14, b15, b16, b17, b18⟩ := hbx
   clear hb0 hN0 b1 b2 b3 b4 b5 b6 b7 b8 b9 b14 b15 b16 b17 b18
   rw [HK.out] at b0
   go_wp2_with (fail)
   refine (HMAY.out W0 HB0.out _ rfl).mono ?_
   rintro e w1 ⟨rfl, hb1⟩
   have HB1 := Lib.hid (HB0.out.trans (((box_new _).trans (hb1.mono (by simp))).mono HB0.out.size))
   clear hb1 b0 b10 b11 b12 b13
   generalize Rt.mayK [h.ty] = X at *
   go_wp2_with (fail)
   go_ret
   exact ⟨ret_bool HR.out.symm, HB1.out⟩
 ·rw [if_neg (by unfold typK; rw [decide_eq_false h1]; exact Bool.false_ne_true)] at hr
  have e11 := of_not (fun e => h1 (.inl e)); have e13 := of_not (fun e => h1 (.inr (.inl e))); have e15 := of_not (fun e => h1 (.inr (.inr e)))
  have HR := Lib.hid hr
  clear hr h1
  go_enter Tryz.func61, Tryz.ntmps61
  go_upto_region 1 with (fail)
  obtain ⟨W0, hW0⟩ : ∃ W0, W0 = w.alloc (.cells #[.int .u8 h.h.k, .int .u8 h.h.op, .int .i64 h.h.pl, .int .i64 h.h.n, .string h.h.name, .string h.h.arg, .string h.h.exn, .int .i64 h.rho, .slice v.ra h.rhos.length v.rc, .slice v.ea h.e.length v.ec, .int .u8 h.ty.h.k, .int .i64 h.ty.h.r, .slice v.tea h.ty.h.e.length v.tec, .slice v.tka h.ty.ks.length v.tkc, .int .u8 h.re.h.k, .int .i64 h.re.h.r, .slice v.sea h.re.h.e.length v.sec, .slice v.ska h.re.ks.length v.skc, .slice v.ka l v.kc] 31) := ⟨_, rfl⟩
  have hbx : Box W0 w.heap.size h v l := by rw [hW0]; exact box_of (w := w) (h := h) (v := v) (l := l)
  have hb0 : Below w.heap.size w W0 := by rw [hW0]; exact box_new _
  rw [← hW0]
  clear hW0
  generalize hN0 : w.heap.size = N0 at hbx ⊢
  have HB0 := Lib.hid hb0; have HBX := Lib.hid hbx
  obtain ⟨b0, b1, b2, b3, b4, b5, b6, b7, b8, b9, b10, b11, b12, b13, b14, b15, b16, b17, b18⟩ := hbx
  clear hb0 hN0 b1 b2 b3 b4 b5 b6 b7 b8 b9 b14 b15 b16 b17 b18
  go_wp2_with (fail)
  refine (HNONE.out W0).mono ?_
  rintro e w1 ⟨rfl, hb1⟩
  have HB1 := Lib.hid (below_then HB0.out hb1 HB0.out.size)
  clear hb1 b0 b10 b11 b12 b13
  generalize plainB h.ty = X at *
  go_wp2_with (fail)
  go_ret
  exact ⟨ret_bool HR.out.symm, HB1.out⟩

set_option maxRecDepth 10000 in
set_option maxHeartbeats 3200000 in
theorem resFits_walk (t : AT) (h : Hd) (v : V) (l : Nat) (w : World) (hT : AtIs w h v l t) (he : Rt.allT (Rt.effB 100000) h.re = true) :
  Calls Tryz.prog 62 #[.agg #[.int .u8 h.h.k, .int .u8 h.h.op, .int .i64 h.h.pl, .int .i64 h.h.n, .string h.h.name, .string h.h.arg, .string h.h.exn, .int .i64 h.rho, .slice v.ra h.rhos.length v.rc, .slice v.ea h.e.length v.ec, .int .u8 h.ty.h.k, .int .i64 h.ty.h.r, .slice v.tea h.ty.h.e.length v.tec, .slice v.tka h.ty.ks.length v.tkc, .int .u8 h.re.h.k, .int .i64 h.re.h.r, .slice v.sea h.re.h.e.length v.sec, .slice v.ska h.re.ks.length v.skc, .slice v.ka l v.kc]] w fun e w' => e = .returned (.bool (resOk h)) ∧ Below w.heap.size w w' := by
 have hr : resOk h = if h.h.k = 13 then Rt.mayT h.re else plainB h.re := rfl
 have hty := hT.ok.re
 have hmay := fun (W : World) (hb : Below w.heap.size w W) (N : Nat) (hN : N = W.heap.size) => Rt.may_walk [h.re] (some ⟨N, 0, none⟩) 1 1 _ rfl Rt.one_le (Rt.kids_one (hty.below hb) 28 N hN) (by rw [allK_rt]; exact he)
 have hcap := Rt.cap63 hty
 have hnone := fun W => none_walk h.re v.sea v.sec v.ska v.skc W hcap.1 hcap.2
 have HMAY := Lib.hid hmay; have HNONE := Lib.hid hnone
 clear hT hmay hnone hcap hty he
 by_cases h1 : h.h.k = 13
 ·rw [if_pos h1, ← mayK_one] at hr
  have HR := Lib.hid hr
  clear hr
  iterate 1
   have HK := Lib.hid h1
   clear h1
   go_enter Tryz.func62, Tryz.ntmps62
   go_upto_region 1 with (fail)
   obtain ⟨W0, hW0⟩ : ∃ W0, W0 = w.alloc (.cells #[.int .u8 h.h.k, .int .u8 h.h.op, .int .i64 h.h.pl, .int .i64 h.h.n, .string h.h.name, .string h.h.arg, .string h.h.exn, .int .i64 h.rho, .slice v.ra h.rhos.length v.rc, .slice v.ea h.e.length v.ec, .int .u8 h.ty.h.k, .int .i64 h.ty.h.r, .slice v.tea h.ty.h.e.length v.tec, .slice v.tka h.ty.ks.length v.tkc, .int .u8 h.re.h.k, .int .i64 h.re.h.r, .slice v.sea h.re.h.e.length v.sec, .slice v.ska h.re.ks.length v.skc, .slice v.ka l v.kc] 31) := ⟨_, rfl⟩
   have hbx : Box W0 w.heap.size h v l := by rw [hW0]; exact box_of (w := w) (h := h) (v := v) (l := l)
   have hb0 : Below w.heap.size w W0 := by rw [hW0]; exact box_new _
   rw [← hW0]
   clear hW0
   generalize hN0 : w.heap.size = N0 at hbx ⊢
   have HB0 := Lib.hid hb0; have HBX := Lib.hid hbx
   obtain ⟨b0, b1, b2, b3, b4, b5, b6, b7, b8, b9, b10, b11, b12, b13, b14, b15, b16, b17, b18⟩ := hbx
   clear hb0 hN0 b1 b2 b3 b4 b5 b6 b7 b8 b9 b10 b11 b12 b13 b18
   rw [HK.out] at b0
   go_wp2_with (fail)
   refine (HMAY.out W0 HB0.out _ rfl).mono ?_
   rintro e w1 ⟨rfl, hb1⟩
   have HB1 := Lib.hid (HB0.out.trans (((box_new _).trans (hb1.mono (by simp))).mono HB0.out.size))
   clear hb1 b0 b14 b15 b16 b17
   generalize Rt.mayK [h.re] = X at *
   go_wp2_with (fail)
   go_ret
   exact ⟨ret_bool HR.out.symm, HB1.out⟩
 ·rw [if_neg h1] at hr
  have e13 := of_not h1
  have HR := Lib.hid hr
  clear hr h1
  go_enter Tryz.func62, Tryz.ntmps62
  go_upto_region 1 with (fail)
  obtain ⟨W0, hW0⟩ : ∃ W0, W0 = w.alloc (.cells #[.int .u8 h.h.k, .int .u8 h.h.op, .int .i64 h.h.pl, .int .i64 h.h.n, .string h.h.name, .string h.h.arg, .string h.h.exn, .int .i64 h.rho, .slice v.ra h.rhos.length v.rc, .slice v.ea h.e.length v.ec, .int .u8 h.ty.h.k, .int .i64 h.ty.h.r, .slice v.tea h.ty.h.e.length v.tec, .slice v.tka h.ty.ks.length v.tkc, .int .u8 h.re.h.k, .int .i64 h.re.h.r, .slice v.sea h.re.h.e.length v.sec, .slice v.ska h.re.ks.length v.skc, .slice v.ka l v.kc] 31) := ⟨_, rfl⟩
  have hbx : Box W0 w.heap.size h v l := by rw [hW0]; exact box_of (w := w) (h := h) (v := v) (l := l)
  have hb0 : Below w.heap.size w W0 := by rw [hW0]; exact box_new _
  rw [← hW0]
  clear hW0
  generalize hN0 : w.heap.size = N0 at hbx ⊢
  have HB0 := Lib.hid hb0; have HBX := Lib.hid hbx
  obtain ⟨b0, b1, b2, b3, b4, b5, b6, b7, b8, b9, b10, b11, b12, b13, b14, b15, b16, b17, b18⟩ := hbx
  clear hb0 hN0 b1 b2 b3 b4 b5 b6 b7 b8 b9 b10 b11 b12 b13 b18
  go_wp2_with (fail)
  refine (HNONE.out W0).mono ?_
  rintro e w1 ⟨rfl, hb1⟩
  have HB1 := Lib.hid (below_then HB0.out hb1 HB0.out.size)
  clear hb1 b0 b14 b15 b16 b17
  generalize plainB h.re = X at *
  go_wp2_with (fail)
  go_ret
  exact ⟨ret_bool HR.out.symm, HB1.out⟩
end Aterm
end Go.Proofs.YtfncpcijfphngaaGreatDoor
