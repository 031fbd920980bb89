/-The program's way through all nodes of terms with regions: what may be turned, and what is asked of its closure. (Written by wip/tools/atfold.py.) The program's way through all nodes of terms with regions: the walk, with the closure of each. (Written by wip/tools/atfold.py.) A row of one term with regions. (Written by wip/tools/atsizep.py.) The program's Size of terms with regions. (Written by wip/tools/atsizep.py.) The program's look at what a node binds; maps that tell which regions were met. (Written by wip/tools/atapartp.py.) The walks of the document's Binds of terms with regions. Terms with regions, without these: mathematics. What can be read in one world and in another; a world with some blocks out of sight. The walk of the document's row of all nodes: the loop. Rows of terms that a call made, read. -/
import Derived.Test.YtolpdhkgkjnbfaaDoorGC05
import Derived.Deep.WholeRow
import Derived.Maps.OwnSet
import Derived.Test.YtolpdhkgkjnbfaaDoorGC04
import Derived.Deep.QuietTactic
import Derived.BigQuiet
namespace Go.Proofs.YtolpdhkgkjnbfaaDoor
open Go.RowKit
set_option linter.unusedVariables false
set_option linter.unusedSimpArgs false
namespace Aterm
open Rt (box_new box_at below_then)
open Effect (ret_bool ret_i64 lt_of_block heap_alloc_new)

/-- Only blocks of P may be turned. -/
structure Tch (P : Nat → Option Obj → Prop) (w w' : World) : Prop where
  os : w'.os = w.os
  tape : w'.tape = w.tape
  output : w'.output = w.output
  size : w.heap.size ≤ w'.heap.size
  block : ∀ k, k < w.heap.size → ¬ P k w.heap[k]? → w'.heap[k]? = w.heap[k]?
section
variable {P : Nat → Option Obj → Prop}
theorem Tch.refl (w : World) : Tch P w w := ⟨rfl, rfl, rfl, Nat.le_refl _, fun _ _ _ => rfl⟩
theorem Tch.trans {a b c : World} (h : Tch P a b) (k : Tch P b c) : Tch P a c :=
  ⟨k.os.trans h.os, k.tape.trans h.tape, k.output.trans h.output, Nat.le_trans h.size k.size, fun i hi hn => by
    have h1 := h.block i hi hn
    exact (k.block i (Nat.lt_of_lt_of_le hi h.size) (by rw [h1]; exact hn)).trans h1⟩
theorem Tch.of_below {w w' : World} (hb : Below w.heap.size w w') : Tch P w w' := ⟨hb.os, hb.tape, hb.output, hb.size, fun i hi _ => hb.block i hi⟩
theorem Tch.alloc {a w : World} (h : Tch P a w) (O : Obj) : Tch P a (w.alloc O) := h.trans (Tch.of_below (box_new O))
theorem Tch.drew {a w : World} (h : Tch P a w) : Tch P a w.drew := ⟨h.os, h.tape, h.output, h.size, h.block⟩
theorem Tch.below {w w' a : World} {B : Nat} (h : Tch P w w') (hP : ∀ k O, k < B → ¬ P k O) (ha : Below B a w) (hB : B ≤ a.heap.size) : Below B a w' :=
  ⟨h.os.trans ha.os, h.tape.trans ha.tape, h.output.trans ha.output, Nat.le_trans ha.size h.size, fun k hk => (h.block k (by have := ha.size; omega) (hP k _ hk)).trans (ha.block k hk)⟩
theorem Tch.range {w w' : World} (h : Tch P w w') {b o : Nat} {cs : List Value} (hr : w.rangeAt b o cs) (hn : ¬ P b w.heap[b]?) : w'.rangeAt b o cs := fun j v hv => by
  have h1 := hr j v hv
  have hlt : b < w.heap.size := World.block_lt_of_cell? w ⟨b, o + j, none⟩ h1
  rw [World.cell?_of_block (w := w) (a := ⟨b, o + j, none⟩) (h.block b hlt hn)]
  exact h1
theorem Tch.box {w w' : World} (h : Tch P w w') {N : Nat} {hd : Hd} {v : V} {l : Nat} (k : Box w N hd v l) (hn : ¬ P N w.heap[N]?) : Box w' N hd v l := by
  have hlt : N < w.heap.size := World.block_lt_of_cell? w _ k.1
  have hb := h.block N hlt hn
  unfold Box at *
  simp only [World.cell?_of_block (w := w) (w' := w') (a := ⟨N, _, none⟩) hb]
  exact k
end
/-- What is asked of a state's reading in memory. -/
structure Goes {σ : Type} (w0 : World) (P : Nat → Option Obj → Prop) (I : Nat → σ → World → Prop) : Prop where
  low : ∀ k O, k < w0.heap.size → ¬ P k O
  new : ∀ r s W, I r s W → ∀ cs fz, ¬ P W.heap.size (some (.cells cs 33 fz))
  keep : ∀ r s W W', I r s W → Below W.heap.size W W' → I r s W'
  less : ∀ r r' s W, I r s W → r' ≤ r → I r' s W
/-- How such a call ends. -/
def FoEnd {σ : Type} (P : Nat → Option Obj → Prop) (I : σ → World → Prop) (r : Bool × σ) (w : World) (e : Ending) (w' : World) : Prop := e = .returned (.bool r.1) ∧ I r.2 w' ∧ Tch P w w'
/-- What is asked of the closure. -/
def Steps {σ : Type} (c : Nat) (env : List Value) (B : σ → AT → Bool) (S : σ → AT → σ) (C : Hd → Nat → Bool) (w0 : World) (P : Nat → Option Obj → Prop) (I : Nat → σ → World → Prop) : Prop :=
  ∀ r s W t h v l, I (r + 1) s W → AtIs w0 h v l t → C h l = true → Below w0.heap.size w0 W → Calls Tryd.prog c (Value.agg #[.int .u8 h.h.k, .int .u8 h.h.op, .int .i64 h.h.pl, .int .i64 h.h.n, .string h.h.name, .string h.h.arg, .string h.h.exn, .int .i64 h.rho, .slice v.ra h.rhos.length v.rc, .slice v.ea h.e.length v.ec, .int .u8 h.ty.h.k, .int .i64 h.ty.h.r, .slice v.tea h.ty.h.e.length v.tec, .slice v.tka h.ty.ks.length v.tkc, .int .u8 h.re.h.k, .int .i64 h.re.h.r, .slice v.sea h.re.h.e.length v.sec, .slice v.ska h.re.ks.length v.skc, .slice v.ka l v.kc] :: env).toArray W (FoEnd P (I r) (B s t, S s t) W)
/-- A row of terms: its cells may lie in newer memory. -/
def RowS (w0 W : World) (p : Option Addr) (ts : List AT) : Prop := ∀ i, i < ts.length → ∃ b o v, p = some ⟨b, o, none⟩ ∧ AtIs w0 (tget ts i).h v (tget ts i).ks.length (tget ts i) ∧ W.rangeAt b (o + i * 19) (acells (tget ts i).h v (tget ts i).ks.length)
theorem rowS_kids {w0 W : World} {p : Option Addr} {ts : List AT} (h : Kids w0 p ts) (hb : Below w0.heap.size w0 W) : RowS w0 W p ts := fun i hi => by
  obtain ⟨b, o, v, h1, h2, h3⟩ := h.load i hi
  exact ⟨b, o, v, h1, h2, range_below h3 hb⟩
theorem wts_drop' (ts : List AT) (j : Nat) (hj : j < ts.length) : wts (ts.drop j) = wts (tget ts j).ks + 1 + wts (ts.drop (j + 1)) := by
  rw [wts_drop ts j hj, wt_ks]
/-- A term that is loaded behind a guard that is met. -/
theorem at_load_g {ops : Array Oper} {rest : List Oper} {op : Oper} {a : Act} {w : World} {Q : Exit → Act → World → Prop} (hw : Region.wanted op (yielded ops a.tmps) = true) (x : Operand) (ho : op.op = .load 33 x)
    (b o : Nat) (hx : a.eval x = .pointer (some ⟨b, o, none⟩)) {h : Hd} {v : V} {l : Nat} (hr : w.rangeAt b o (acells h v l))
    (k : wpList Tryd.prog ops Q rest (a.put op.dst (.agg #[.int .u8 h.h.k, .int .u8 h.h.op, .int .i64 h.h.pl, .int .i64 h.h.n, .string h.h.name, .string h.h.arg, .string h.h.exn, .int .i64 h.rho, .slice v.ra h.rhos.length v.rc, .slice v.ea h.e.length v.ec, .int .u8 h.ty.h.k, .int .i64 h.ty.h.r, .slice v.tea h.ty.h.e.length v.tec, .slice v.tka h.ty.ks.length v.tkc, .int .u8 h.re.h.k, .int .i64 h.re.h.r, .slice v.sea h.re.h.e.length v.sec, .slice v.ska h.re.ks.length v.skc, .slice v.ka l v.kc])) w) : wpList Tryd.prog ops Q (op :: rest) a w := by
  rw [wpList, if_pos hw]
  exact .inl (wp_load_mid 33 x ho b o hx (acells h v l) _ hr Tryd.underlying33 rfl atInfo k)
/-- A term that is laid into a block that was made last. -/
theorem at_store {ops : Array Oper} {rest : List Oper} {op : Oper} {a : Act} {w0 : World} {Q : Exit → Act → World → Prop} (hgd : op.guard = none) (x y : Operand) (ho : op.op = .store 33 x y) (c : Array Value) (hc : c.size = 19)
    (h : Hd) (v : V) (l : Nat) (hx : a.eval x = .pointer (some ⟨w0.heap.size, 0, none⟩)) (hy : a.eval y = .agg #[.int .u8 h.h.k, .int .u8 h.h.op, .int .i64 h.h.pl, .int .i64 h.h.n, .string h.h.name, .string h.h.arg, .string h.h.exn, .int .i64 h.rho, .slice v.ra h.rhos.length v.rc, .slice v.ea h.e.length v.ec, .int .u8 h.ty.h.k, .int .i64 h.ty.h.r, .slice v.tea h.ty.h.e.length v.tec, .slice v.tka h.ty.ks.length v.tkc, .int .u8 h.re.h.k, .int .i64 h.re.h.r, .slice v.sea h.re.h.e.length v.sec, .slice v.ska h.re.ks.length v.skc, .slice v.ka l v.kc])
    (k : wpList Tryd.prog ops Q rest (a.put op.dst undef) (w0.alloc (.cells #[.int .u8 h.h.k, .int .u8 h.h.op, .int .i64 h.h.pl, .int .i64 h.h.n, .string h.h.name, .string h.h.arg, .string h.h.exn, .int .i64 h.rho, .slice v.ra h.rhos.length v.rc, .slice v.ea h.e.length v.ec, .int .u8 h.ty.h.k, .int .i64 h.ty.h.r, .slice v.tea h.ty.h.e.length v.tec, .slice v.tka h.ty.ks.length v.tkc, .int .u8 h.re.h.k, .int .i64 h.re.h.r, .slice v.sea h.re.h.e.length v.sec, .slice v.ska h.re.ks.length v.skc, .slice v.ka l v.kc] 33))) : wpList Tryd.prog ops Q (op :: rest) a (w0.alloc (.cells c 33)) :=
  wpList_plain hgd fun _ hK => by
    have hst := run_storeVar_new (P := Tryd.prog) w0 33 c #[.int .u8 h.h.k, .int .u8 h.h.op, .int .i64 h.h.pl, .int .i64 h.h.n, .string h.h.name, .string h.h.arg, .string h.h.exn, .int .i64 h.rho, .slice v.ra h.rhos.length v.rc, .slice v.ea h.e.length v.ec, .int .u8 h.ty.h.k, .int .i64 h.ty.h.r, .slice v.tea h.ty.h.e.length v.tec, .slice v.tka h.ty.ks.length v.tkc, .int .u8 h.re.h.k, .int .i64 h.re.h.r, .slice v.sea h.re.h.e.length v.sec, .slice v.ska h.re.ks.length v.skc, .slice v.ka l v.kc] atInfo hc (all_oneCell_toArray (cs := acells h v l) (fun u hu => by
      simp [acells] at hu
      rcases hu with rfl | rfl | rfl | rfl | rfl | rfl | rfl | rfl | rfl | rfl | rfl | rfl | rfl | rfl | rfl | rfl | rfl | rfl | rfl <;> rfl))
    unfold Oper.wp execOp
    simp only [ho, hx, hy, Instr.storeAt, Instr.sureAddr, Sem.run_bind, Sem.run_pure, Result.andThen_ok, hst]
    exact hK _ _ k
end Aterm
end Go.Proofs.YtolpdhkgkjnbfaaDoor
namespace Go.Proofs.YtolpdhkgkjnbfaaDoor
open Go.RowKit
set_option linter.unusedVariables false
set_option linter.unusedSimpArgs false
namespace Aterm
open Rt (box_new box_at below_then)
open Effect (ret_bool ret_i64 lt_of_block heap_alloc_new)

set_option maxRecDepth 10000 in
set_option maxHeartbeats 6400000 in
theorem allEach_walk {σ : Type} (B : σ → AT → Bool) (S : σ → AT → σ) (C : Hd → Nat → Bool) (w0 : World) (P : Nat → Option Obj → Prop) (K0 : Nat) (I : Nat → σ → World → Prop) (hI : Goes w0 P I) (hC : Steps 34 [.pointer (some ⟨K0, 0, none⟩)] B S C w0 P I) :
    ∀ (m : Nat) (ts : List AT) (p : Option Addr) (l d r : Nat) (s : σ) (w : World), wts ts ≤ m → ts.length = l → l ≤ maxLen → (∀ W, Tch P w W → RowS w0 W p ts) → Below w0.heap.size w0 w → allK C ts = true → I (r + wts ts) s w →
    Calls Tryd.prog 21 #[.func (.func 34) #[] #[.pointer (some ⟨K0, 0, none⟩)], .slice p l d] w (FoEnd P (I r) (foK B S ts s) w) := by
  have GI := Lib.hid hI; have GC := Lib.hid hC
  clear hI hC
  intro m
  induction m using Nat.strongRecOn with
  | _ m ih =>
    intro ts p l d r s w hm hl hlm hk hb00 hcc hi
    unfold maxLen at hlm
    have HM := Lib.hid hm; have HL := Lib.hid hl; have HK := Lib.hid hk; have HI := Lib.hid hi; have IH := Lib.hid ih; have HB00 := Lib.hid hb00; have HCC := Lib.hid hcc
    clear hm hl hk hi ih hb00 hcc
    go_enter Tryd.func21, Tryd.ntmps21
    go_wp2_with (fail)
    go_loopw [6, 9] (fun _ i wr => ∃ (j : Nat) (u : σ), j ≤ l ∧ i = .int .i64 j ∧ Hid (foK B S ts s = foK B S (ts.drop j) u) ∧ Hid (I (r + wts (ts.drop j)) u wr) ∧ Hid (Tch P w wr)) (fun _ i _ => l - (intOf i).toNat)
    case atStart => exact ⟨0, s, Nat.zero_le _, rfl, Lib.hid (by rw [List.drop_zero]), Lib.hid (by rw [List.drop_zero]; exact HI.out), Lib.hid (Tch.refl _)⟩
    case round =>
      obtain ⟨j, u, hj, rfl, HF, HJ, HS⟩ := hrel
      by_cases hlt : j < l
      · have hjk : j < ts.length := by rw [HL.out]; exact hlt
        obtain ⟨b, o, v, rfl, hkid, hrg⟩ := HK.out wr HS.out j hjk
        have hbr : Below w0.heap.size w0 wr := HS.out.below GI.out.low HB00.out (Nat.le_refl _)
        have hcj := allK_get _ hjk HCC.out
        rw [allT_eq, Bool.and_eq_true] at hcj
        have hwd := wts_drop' ts j hjk
        have hwm : wts (tget ts j).ks < wts ts := by have h1 := wts_get hjk; have h2 := wt_ks (tget ts j); omega
        have hin : I ((r + wts (ts.drop (j + 1))) + wts (tget ts j).ks + 1) u wr := GI.out.less _ _ _ _ HJ.out (by omega)
        have hnew := GI.out.new _ _ _ HJ.out
        have HJK := Lib.hid hjk; have HKID := Lib.hid hkid; have HWM := Lib.hid hwm; have HIN := Lib.hid hin; have HRG := Lib.hid hrg; have HBR := Lib.hid hbr; have HCJ := Lib.hid hcj; have HNEW := Lib.hid hnew
        clear hjk hkid hwd hwm hin hrg hbr hcj hnew
        go_upto_region 4 with (first | refine at_load rfl _ rfl b (o + j * 19) rfl HRG.out ?_ | refine at_store rfl _ _ rfl _ rfl (tget ts j).h v (tget ts j).ks.length rfl rfl ?_)
        obtain ⟨W0, hW0⟩ : ∃ W0, W0 = wr.alloc (.cells #[.int .u8 (tget ts j).h.h.k, .int .u8 (tget ts j).h.h.op, .int .i64 (tget ts j).h.h.pl, .int .i64 (tget ts j).h.h.n, .string (tget ts j).h.h.name, .string (tget ts j).h.h.arg, .string (tget ts j).h.h.exn, .int .i64 (tget ts j).h.rho, .slice v.ra (tget ts j).h.rhos.length v.rc, .slice v.ea (tget ts j).h.e.length v.ec, .int .u8 (tget ts j).h.ty.h.k, .int .i64 (tget ts j).h.ty.h.r, .slice v.tea (tget ts j).h.ty.h.e.length v.tec, .slice v.tka (tget ts j).h.ty.ks.length v.tkc, .int .u8 (tget ts j).h.re.h.k, .int .i64 (tget ts j).h.re.h.r, .slice v.sea (tget ts j).h.re.h.e.length v.sec, .slice v.ska (tget ts j).h.re.ks.length v.skc, .slice v.ka (tget ts j).ks.length v.kc] 33) := ⟨_, rfl⟩
        have hbx : Box W0 wr.heap.size (tget ts j).h v (tget ts j).ks.length := by rw [hW0]; exact box_of (w := wr) (h := (tget ts j).h) (v := v) (l := (tget ts j).ks.length)
        have hb0 : Below wr.heap.size wr W0 := by rw [hW0]; exact box_new _
        have hnp : ¬ P wr.heap.size W0.heap[wr.heap.size]? := by
          rw [hW0, heap_alloc_new]
          exact HNEW.out _ _
        rw [← hW0]
        clear hW0
        have HSA := Lib.hid (HS.out.trans (Tch.of_below hb0))
        have HST := Lib.hid (GI.out.keep _ _ _ _ HIN.out hb0); have HBR0 := Lib.hid (below_then HBR.out hb0 HBR.out.size)
        generalize hN0 : wr.heap.size = N0 at hbx hnp ⊢
        have HNP := Lib.hid hnp; have HBX := Lib.hid hbx; have HRB := Lib.hid hbx.range
        clear hb0 hN0 hbx hnp
        go_wp2_with (refine at_load rfl _ rfl N0 0 rfl HRB.out ?_)
        refine (GC.out _ _ _ (tget ts j) (tget ts j).h v (tget ts j).ks.length HST.out HKID.out HCJ.out.1 HBR0.out).mono ?_
        rintro e w1 ⟨rfl, hi1, hs1⟩
        obtain ⟨b0, b1, b2, b3, b4, b5, b6, b7, b8, b9, b10, b11, b12, b13, b14, b15, b16, b17, b18⟩ := hs1.box HBX.out HNP.out
        clear b0 b1 b2 b3 b4 b5 b6 b7 b8 b9 b10 b11 b12 b13 b14 b15 b16 b17
        have HI1 := Lib.hid hi1
        have HS1 := Lib.hid (HSA.out.trans hs1)
        clear hi1 hs1
        cases hb : B u (tget ts j)
        · have hno := foK_no B S HJK.out hb
          have hi2 := GI.out.less _ r _ _ HI1.out (by omega)
          have HNO := Lib.hid hno; have HB := Lib.hid hb; have HI2 := Lib.hid hi2
          clear hno hb hi2
          go_wp2_with (fail)
          go_ret
          exact ⟨ret_bool (by rw [HF.out, HNO.out]), by rw [HF.out, HNO.out]; exact HI2.out, HS1.out⟩
        · have HB := Lib.hid hb
          clear hb
          go_wp2_with (fail)
          refine (IH.out (wts (tget ts j).ks) (by have := HWM.out; have := HM.out; omega) (tget ts j).ks v.ka _ v.kc (r + wts (ts.drop (j + 1))) _ _ (Nat.le_refl _) rfl (Nat.le_trans HKID.out.cap.1 HKID.out.cap.2) (fun W hW => rowS_kids HKID.out.kids ((HS1.out.trans hW).below GI.out.low HB00.out (Nat.le_refl _))) (HS1.out.below GI.out.low HB00.out (Nat.le_refl _)) HCJ.out.2 HI1.out).mono ?_
          rintro e w2 ⟨rfl, hi3, hs3⟩
          have HI3 := Lib.hid hi3
          have HS3 := Lib.hid (HS1.out.trans hs3)
          clear hi3 hs3 b18
          cases hk : (foK B S (tget ts j).ks (S u (tget ts j))).1
          · have hno := foK_kno B S HJK.out HB.out hk
            have hi4 := GI.out.less _ r _ _ HI3.out (by omega)
            have HNO := Lib.hid hno; have HKB := Lib.hid hk; have HI4 := Lib.hid hi4
            clear hno hk hi4
            go_wp2_with (fail)
            go_ret
            exact ⟨ret_bool (by rw [HF.out, HNO.out]), by rw [HF.out, HNO.out]; exact HI4.out, HS3.out⟩
          · have hyes := foK_yes B S HJK.out HB.out hk
            have HYES := Lib.hid hyes; have HKB := Lib.hid hk
            clear hyes hk
            go_wp2_with (fail)
            go_roundw
            case rel => exact ⟨j + 1, _, by omega, by go_num, Lib.hid (HF.out.trans HYES.out), HI3, HS3⟩
            case measure => simp [intOf]; omega
      · obtain rfl : j = l := by omega
        have hr := HF.out
        have hi := HJ.out
        rw [List.drop_eq_nil_of_le (by rw [HL.out]; exact Nat.le_refl _)] at hr hi
        rw [foK_nil] at hr
        rw [wts_nil] at hi
        have HR := Lib.hid hr; have HI2 := Lib.hid hi
        clear hr hi
        go_wp2_with (fail)
        go_ret
        exact ⟨ret_bool (by rw [HR.out]), by rw [HR.out]; exact HI2.out, HS.out⟩
end Aterm
end Go.Proofs.YtolpdhkgkjnbfaaDoor
namespace Go.Proofs.YtolpdhkgkjnbfaaDoor
open Go.RowKit
set_option linter.unusedVariables false
set_option linter.unusedSimpArgs false
namespace Aterm
open Effect (RdI nget nget_at nget_mem ret_bool ret_i64 lt_of_block heap_alloc_new ofA)
open Rt (box_new box_at below_then)

theorem row_one {w0 W : World} {t : AT} {h : Hd} {v : V} {l g : Nat} (hT : AtIs w0 h v l t) (hr : W.rangeAt g 0 (acells h v l)) : RowS w0 W (some ⟨g, 0, none⟩) [t] := by
  obtain ⟨h1, h2, h3, h4, h5⟩ := hT
  subst h1 h2
  intro i hi
  have hi0 : i = 0 := by simp at hi; omega
  subst hi0
  exact ⟨g, 0, v, rfl, ⟨rfl, rfl, h3, h4, h5⟩, by rw [Nat.zero_mul, Nat.add_zero]; exact hr⟩
theorem allK_of1 (B : Hd → Nat → Bool) (t : AT) : allK B [t] = allT B t := by rw [allK_cons, allK_nil, Bool.and_true]
theorem row_new {W : World} {N : Nat} (hN : N = W.heap.size) {h : Hd} {v : V} {l : Nat} {ty : TypeId} : (W.alloc (.cells #[.int .u8 h.h.k, .int .u8 h.h.op, .int .i64 h.h.pl, .int .i64 h.h.n, .string h.h.name, .string h.h.arg, .string h.h.exn, .int .i64 h.rho, .slice v.ra h.rhos.length v.rc, .slice v.ea h.e.length v.ec, .int .u8 h.ty.h.k, .int .i64 h.ty.h.r, .slice v.tea h.ty.h.e.length v.tec, .slice v.tka h.ty.ks.length v.tkc, .int .u8 h.re.h.k, .int .i64 h.re.h.r, .slice v.sea h.re.h.e.length v.sec, .slice v.ska h.re.ks.length v.skc, .slice v.ka l v.kc] ty)).rangeAt N 0 (acells h v l) := by
  subst hN
  exact box_of.range
end Aterm
end Go.Proofs.YtolpdhkgkjnbfaaDoor
namespace Go.Proofs.YtolpdhkgkjnbfaaDoor
open Go.RowKit
set_option linter.unusedVariables false
set_option linter.unusedSimpArgs false
namespace Aterm
open Effect (RdI nget nget_at nget_mem ret_bool ret_i64 lt_of_block heap_alloc_new ofA)
open Rt (box_new box_at below_then)

/-- The function that each is handed. -/
def fnBox (F N : Nat) : Obj := .cells #[.func (.func F) #[] #[.pointer (some ⟨N, 0, none⟩)]] 53 (0, 0)
set_option maxHeartbeats 1600000 in
/-- What each does with what all does. -/
theorem each_of (F N : Nat) (p : Option Addr) (l d : Nat) (w : World) (Q : World → Prop)
    (h : Calls Tryd.prog 21 #[.func (.func 34) #[] #[.pointer (some ⟨w.heap.size, 0, none⟩)], .slice p l d] (w.alloc (.cells #[.func (.func F) #[] #[.pointer (some ⟨N, 0, none⟩)]] 53)) fun en w' => (∃ b, en = .returned (.bool b)) ∧ Q w') :
    Calls Tryd.prog 25 #[.func (.func F) #[] #[.pointer (some ⟨N, 0, none⟩)], .slice p l d] w fun en w' => en = .returned (.tuple #[]) ∧ Q w' := by
  have H := Lib.hid h
  clear h
  go_enter Tryd.func25, Tryd.ntmps25
  go_wp2_with (fail)
  refine H.out.mono ?_
  rintro en w1 ⟨⟨b, rfl⟩, hq⟩
  have HQ := Lib.hid hq
  clear hq
  go_wp2_with (fail)
  go_end0
  exact ⟨rfl, HQ.out⟩

/-- The count's block, and that of the function that counts. -/
structure Cnt (w0 : World) (N E n : Nat) (W : World) : Prop where
  box : W.heap[N]? = some (.cells #[.int .i64 n] 3 (0, 0))
  fn : W.heap[E]? = some (fnBox 27 N)
  ne : E ≠ N
  low : w0.heap.size ≤ N
theorem Cnt.below {w0 : World} {N E n : Nat} {W W' : World} (h : Cnt w0 N E n W) (hb : Below W.heap.size W W') : Cnt w0 N E n W' :=
  ⟨(hb.block N (lt_of_block h.box)).trans h.box, (hb.block E (lt_of_block h.fn)).trans h.fn, h.ne, h.low⟩
def CntP (N : Nat) (k : Nat) (_ : Option Obj) : Prop := k = N
theorem Cnt.step {w0 : World} {N E n : Nat} {W : World} (h : Cnt w0 N E n W) : Cnt w0 N E (n + 1) (W.setCell ⟨N, 0, none⟩ (.int .i64 ((n : Int) + 1))) ∧ Tch (CntP N) W (W.setCell ⟨N, 0, none⟩ (.int .i64 ((n : Int) + 1))) := by
  have ho : ∀ k, k ≠ N → (W.setCell ⟨N, 0, none⟩ (.int .i64 ((n : Int) + 1))).heap[k]? = W.heap[k]? := fun k hk => Below.heap_setCell _ _ _ _ hk
  refine ⟨⟨?_, (ho _ h.ne).trans h.fn, h.ne, h.low⟩, ⟨rfl, rfl, rfl, by simp [World.setCell], fun k _ hn => ho k hn⟩⟩
  simp [World.setCell, Array.getElem?_modify, h.box]
def CntI (w0 : World) (N E : Nat) (r n : Nat) (W : World) : Prop := Cnt w0 N E n W ∧ n + r ≤ 1000000
theorem CntI.goes {w0 : World} {N E : Nat} (hN : w0.heap.size ≤ N) : Goes w0 (CntP N) (CntI w0 N E) where
  low := fun k O hk h => by have h' : k = N := h; omega
  new := fun r s W h cs fz hp => by
    have e1 := lt_of_block h.1.box
    have h' : W.heap.size = N := hp
    omega
  keep := fun r s W W' h hb => ⟨h.1.below hb, h.2⟩
  less := fun r r' s W h hr => ⟨h.1, by have := h.2; omega⟩
set_option maxRecDepth 10000 in
set_option maxHeartbeats 1600000 in
theorem size1_walk (w0 : World) (N E n : Nat) (W : World) (h : Hd) (v : V) (l : Nat) (hC : Cnt w0 N E n W) (hn : n < 1000000) :
    Calls Tryd.prog 27 #[.agg #[.int .u8 h.h.k, .int .u8 h.h.op, .int .i64 h.h.pl, .int .i64 h.h.n, .string h.h.name, .string h.h.arg, .string h.h.exn, .int .i64 h.rho, .slice v.ra h.rhos.length v.rc, .slice v.ea h.e.length v.ec, .int .u8 h.ty.h.k, .int .i64 h.ty.h.r, .slice v.tea h.ty.h.e.length v.tec, .slice v.tka h.ty.ks.length v.tkc, .int .u8 h.re.h.k, .int .i64 h.re.h.r, .slice v.sea h.re.h.e.length v.sec, .slice v.ska h.re.ks.length v.skc, .slice v.ka l v.kc], .pointer (some ⟨N, 0, none⟩)] W fun en W' => en = .returned (.tuple #[]) ∧ Cnt w0 N E (n + 1) W' ∧ Tch (CntP N) W W' := by
  have HC := Lib.hid hC
  clear hC
  go_enter Tryd.func27, Tryd.ntmps27
  go_upto_region 1 with (fail)
  obtain ⟨W0, hW0⟩ : ∃ W0, W0 = W.alloc (.cells #[.int .u8 h.h.k, .int .u8 h.h.op, .int .i64 h.h.pl, .int .i64 h.h.n, .string h.h.name, .string h.h.arg, .string h.h.exn, .int .i64 h.rho, .slice v.ra h.rhos.length v.rc, .slice v.ea h.e.length v.ec, .int .u8 h.ty.h.k, .int .i64 h.ty.h.r, .slice v.tea h.ty.h.e.length v.tec, .slice v.tka h.ty.ks.length v.tkc, .int .u8 h.re.h.k, .int .i64 h.re.h.r, .slice v.sea h.re.h.e.length v.sec, .slice v.ska h.re.ks.length v.skc, .slice v.ka l v.kc] 33) := ⟨_, rfl⟩
  have hbx : Box W0 W.heap.size h v l := by rw [hW0]; exact box_of (w := W) (h := h) (v := v) (l := l)
  have hb0 : Below W.heap.size W W0 := by rw [hW0]; exact box_new _
  rw [← hW0]
  clear hW0
  have HBW := Lib.hid hb0
  generalize hN0 : W.heap.size = N0 at hbx ⊢
  have HB0 := Lib.hid hb0; have HBX := Lib.hid hbx
  obtain ⟨b0, b1, b2, b3, b4, b5, b6, b7, b8, b9, b10, b11, b12, b13, b14, b15, b16, b17, b18⟩ := hbx
  clear hb0 hN0 b0 b1 b2 b3 b4 b5 b6 b7 b8 b9 b10 b11 b12 b13 b14 b15 b16 b17 b18
  have hc0 := HC.out.below HBW.out
  have hst := hc0.step
  have cN : W0.cell? ⟨N, 0, none⟩ = some (.int .i64 n) := by simp [World.cell?, hc0.box]
  have fN : W0.frozen? ⟨N, 0, none⟩ = false := by simp [World.frozen?, hc0.box]
  have HST := Lib.hid hst
  clear hc0 hst
  go_wp2_with (fail)
  go_end0
  exact ⟨rfl, HST.out.1, (Tch.of_below HBW.out).trans HST.out.2⟩
set_option maxRecDepth 10000 in
set_option maxHeartbeats 1600000 in
theorem eachSize_walk (w0 : World) (N E : Nat) : Steps 34 [.pointer (some ⟨E, 0, none⟩)] (fun _ _ => true) (fun n _ => n + 1) smallB w0 (CntP N) (CntI w0 N E) := by
  intro r n W t h v l hi hT hC hb0
  obtain ⟨hA, hlen⟩ := hi
  have hs1 := fun (W' : World) (hb : Below W.heap.size W W') => size1_walk w0 N E n W' h v l (hA.below hb) (by omega)
  have HA := Lib.hid hA; have HS1 := Lib.hid hs1; have HLEN := Lib.hid hlen
  clear hA hs1 hT hC hb0 hlen
  show Calls Tryd.prog 34 #[.agg #[.int .u8 h.h.k, .int .u8 h.h.op, .int .i64 h.h.pl, .int .i64 h.h.n, .string h.h.name, .string h.h.arg, .string h.h.exn, .int .i64 h.rho, .slice v.ra h.rhos.length v.rc, .slice v.ea h.e.length v.ec, .int .u8 h.ty.h.k, .int .i64 h.ty.h.r, .slice v.tea h.ty.h.e.length v.tec, .slice v.tka h.ty.ks.length v.tkc, .int .u8 h.re.h.k, .int .i64 h.re.h.r, .slice v.sea h.re.h.e.length v.sec, .slice v.ska h.re.ks.length v.skc, .slice v.ka l v.kc], .pointer (some ⟨E, 0, none⟩)] W _
  go_enter Tryd.func34, Tryd.ntmps34
  go_upto_region 1 with (fail)
  obtain ⟨W0, hW0⟩ : ∃ W0, W0 = W.alloc (.cells #[.int .u8 h.h.k, .int .u8 h.h.op, .int .i64 h.h.pl, .int .i64 h.h.n, .string h.h.name, .string h.h.arg, .string h.h.exn, .int .i64 h.rho, .slice v.ra h.rhos.length v.rc, .slice v.ea h.e.length v.ec, .int .u8 h.ty.h.k, .int .i64 h.ty.h.r, .slice v.tea h.ty.h.e.length v.tec, .slice v.tka h.ty.ks.length v.tkc, .int .u8 h.re.h.k, .int .i64 h.re.h.r, .slice v.sea h.re.h.e.length v.sec, .slice v.ska h.re.ks.length v.skc, .slice v.ka l v.kc] 33) := ⟨_, rfl⟩
  have hbx : Box W0 W.heap.size h v l := by rw [hW0]; exact box_of (w := W) (h := h) (v := v) (l := l)
  have hb0 : Below W.heap.size W W0 := by rw [hW0]; exact box_new _
  rw [← hW0]
  clear hW0
  have HBW := Lib.hid hb0
  generalize hN0 : W.heap.size = N0 at hbx ⊢
  have HB0 := Lib.hid hb0; have HBX := Lib.hid hbx; have HRG := Lib.hid hbx.range
  obtain ⟨b0, b1, b2, b3, b4, b5, b6, b7, b8, b9, b10, b11, b12, b13, b14, b15, b16, b17, b18⟩ := hbx
  clear hb0 hN0 b0 b1 b2 b3 b4 b5 b6 b7 b8 b9 b10 b11 b12 b13 b14 b15 b16 b17 b18
  have hc0 := HA.out.below HBW.out
  have cE : W0.cell? ⟨E, 0, none⟩ = some (.func (.func 27) #[] #[.pointer (some ⟨N, 0, none⟩)]) := by simp [World.cell?, hc0.fn, fnBox]
  clear hc0
  go_wp2_with (refine at_load rfl _ rfl N0 0 rfl HRG.out ?_)
  refine (HS1.out W0 HBW.out).mono ?_
  rintro en w1 ⟨rfl, hc, hs⟩
  have HC := Lib.hid hc; have HS := Lib.hid hs
  clear hc hs cE
  go_wp2_with (fail)
  go_ret
  exact ⟨rfl, ⟨HC.out, by have := HLEN.out; omega⟩, (Tch.of_below HBW.out).trans HS.out⟩
theorem fold_count : ∀ (l : List AT) (n : Nat), l.foldl (fun n _ => n + 1) n = n + l.length
  | [], n => rfl
  | h :: l, n => by rw [List.foldl_cons, fold_count l (n + 1), List.length_cons]; omega
set_option maxRecDepth 10000 in
set_option maxHeartbeats 1600000 in
theorem size_walk (ts : List AT) (p : Option Addr) (l d : Nat) (w0 w : World) (hl : ts.length = l) (hlm : l ≤ maxLen) (hk : ∀ W, Below w.heap.size w W → RowS w0 W p ts) (hb00 : Below w0.heap.size w0 w) (hw : wts ts ≤ 1000000) (hc : allK smallB ts = true) :
    Calls Tryd.prog 14 #[.slice p l d] w fun e w' => e = .returned (.int .i64 (wts ts : Nat)) ∧ Below w.heap.size w w' := by
  have hsz : (w.alloc (.cells #[.int .i64 0] 3)).heap.size = w.heap.size + 1 := by simp
  have h0 : Cnt w0 w.heap.size (w.alloc (.cells #[.int .i64 0] 3)).heap.size 0 ((w.alloc (.cells #[.int .i64 0] 3)).alloc (.cells #[.func (.func 27) #[] #[.pointer (some ⟨w.heap.size, 0, none⟩)]] 53)) := by
    refine ⟨?_, heap_alloc_new _ _, by omega, hb00.size⟩
    exact ((box_new _).block _ (by simp)).trans (heap_alloc_new _ _)
  have hbb : Below w.heap.size w ((w.alloc (.cells #[.int .i64 0] 3)).alloc (.cells #[.func (.func 27) #[] #[.pointer (some ⟨w.heap.size, 0, none⟩)]] 53)) := (box_new _).trans ((box_new _).mono (by simp))
  have hlowP : ∀ k O, k < w.heap.size → ¬ CntP w.heap.size k O := fun k O hk h => by have h' : k = w.heap.size := h; omega
  have h1 := allEach_walk (fun _ _ => true) (fun n _ => n + 1) smallB w0 (CntP w.heap.size) (w.alloc (.cells #[.int .i64 0] 3)).heap.size (CntI w0 w.heap.size (w.alloc (.cells #[.int .i64 0] 3)).heap.size) (CntI.goes hb00.size) (eachSize_walk w0 w.heap.size _) (wts ts) ts p l d 0 0 _ (Nat.le_refl _) hl hlm
    (fun W hW => hk W (hW.below hlowP hbb (Nat.le_refl _))) (below_then hb00 hbb hb00.size) hc ⟨h0, by omega⟩
  have h2 := each_of 27 w.heap.size p l d _ (fun w' => Cnt w0 w.heap.size (w.alloc (.cells #[.int .i64 0] 3)).heap.size (wts ts) w' ∧ Below w.heap.size w w') (h1.mono (by
    rintro en w' ⟨rfl, hi, hs⟩
    have hf : foK (fun _ _ => true) (fun n _ => n + 1) ts 0 = (true, wts ts) := by
      rw [foK_flat, foL_true, fold_count, (flat_len (wts ts)).2 ts (Nat.le_refl _), Nat.zero_add]
    rw [hf] at hi
    exact ⟨⟨_, rfl⟩, hi.1, hs.below hlowP hbb (Nat.le_refl _)⟩))
  have H2 := Lib.hid h2; have HW := Lib.hid hw
  clear h0 h1 h2 hk hl hlm hw hsz hbb hlowP hc hb00
  go_enter Tryd.func14, Tryd.ntmps14
  go_wp2_with (fail)
  refine H2.out.mono ?_
  rintro e w1 ⟨rfl, hC1, hb1⟩
  have c1 : w1.cell? ⟨w.heap.size, 0, none⟩ = some (.int .i64 (wts ts : Nat)) := by simp [World.cell?, hC1.box]
  have HB1 := Lib.hid hb1
  have HW2 := HW.out
  generalize hX : wts ts = X at *
  have HX := Lib.hid hX
  clear hC1 hX hb1
  go_wp2_with (fail)
  go_ret
  exact ⟨by rw [HX.out]; rfl, HB1.out⟩
end Aterm
end Go.Proofs.YtolpdhkgkjnbfaaDoor
namespace Go.Proofs.YtolpdhkgkjnbfaaDoor
open Go.RowKit Go.Maps Go.ChangeMaps Go.MapKept
set_option linter.unusedVariables false
set_option linter.unusedSimpArgs false
namespace Aterm
open Effect (RdI nget nget_at nget_mem)
open Rt (box_new box_at below_then)

set_option maxRecDepth 10000 in
theorem binds_walk (t : AT) (h : Hd) (v : V) (l : Nat) (w0 w : World) (hT : AtIs w0 h v l t) (hb00 : Below w0.heap.size w0 w) :
    Calls Tryd.prog 23 #[.agg #[.int .u8 h.h.k, .int .u8 h.h.op, .int .i64 h.h.pl, .int .i64 h.h.n, .string h.h.name, .string h.h.arg, .string h.h.exn, .int .i64 h.rho, .slice v.ra h.rhos.length v.rc, .slice v.ea h.e.length v.ec, .int .u8 h.ty.h.k, .int .i64 h.ty.h.r, .slice v.tea h.ty.h.e.length v.tec, .slice v.tka h.ty.ks.length v.tkc, .int .u8 h.re.h.k, .int .i64 h.re.h.r, .slice v.sea h.re.h.e.length v.sec, .slice v.ska h.re.ks.length v.skc, .slice v.ka l v.kc]] w fun e w' => ∃ p n c, e = .returned (.slice p n c) ∧ n = (ownH h).length ∧ RdI w' n p (ownH h) ∧ Below w.heap.size w w' ∧ (RdI w0 n p (ownH h) ∨ ∀ b o, p = some ⟨b, o, none⟩ → w.heap.size ≤ b ∧ b < w'.heap.size) := by
  have hrho := hT.ok.rho
  have hrd0 := hT.ok.rhos
  have hrd := hrd0.below hb00
  have HD0 := Lib.hid hrd0
  clear hrd0 hb00
  have hk : ownH h = if h.h.k = 17 then [h.rho] else if h.h.k = 13 then h.rhos else [] := rfl
  have HR := Lib.hid hrho; have HD := Lib.hid hrd
  clear hT hrho hrd
  by_cases h1 : h.h.k = 17
  · rw [if_pos h1] at hk
    rw [hk]
    have HK := Lib.hid h1
    clear hk h1
    go_enter Tryd.func23, Tryd.ntmps23
    go_upto_region 1 with (fail)
    obtain ⟨W0, hW0⟩ : ∃ W0, W0 = w.alloc (.cells #[.int .u8 h.h.k, .int .u8 h.h.op, .int .i64 h.h.pl, .int .i64 h.h.n, .string h.h.name, .string h.h.arg, .string h.h.exn, .int .i64 h.rho, .slice v.ra h.rhos.length v.rc, .slice v.ea h.e.length v.ec, .int .u8 h.ty.h.k, .int .i64 h.ty.h.r, .slice v.tea h.ty.h.e.length v.tec, .slice v.tka h.ty.ks.length v.tkc, .int .u8 h.re.h.k, .int .i64 h.re.h.r, .slice v.sea h.re.h.e.length v.sec, .slice v.ska h.re.ks.length v.skc, .slice v.ka l v.kc] 33) := ⟨_, rfl⟩
    have hbx : Box W0 w.heap.size h v l := by rw [hW0]; exact box_of (w := w) (h := h) (v := v) (l := l)
    have hb0 : Below w.heap.size w W0 := by rw [hW0]; exact box_new _
    rw [← hW0]
    clear hW0
    generalize hN0 : w.heap.size = N0 at hbx ⊢
    have HB0 := Lib.hid hb0; have HBX := Lib.hid hbx
    obtain ⟨b0, b1, b2, b3, b4, b5, b6, b7, b8, b9, b10, b11, b12, b13, b14, b15, b16, b17, b18⟩ := hbx
    clear hb0 hN0 b1 b2 b3 b4 b5 b6 b8 b9 b10 b11 b12 b13 b14 b15 b16 b17 b18
    rw [HK.out] at b0
    go_wp2_with (fail)
    go_ret
    exact ⟨_, _, _, rfl, rfl, rd_one rfl HR.out, HB0.out.trans ((box_new _).mono HB0.out.size), .inr (fun b o e => by injection e with e; injection e with e; subst e; exact ⟨HB0.out.size, by simp⟩)⟩
  · rw [if_neg h1] at hk
    by_cases h2 : h.h.k = 13
    · rw [if_pos h2] at hk
      rw [hk]
      have HK := Lib.hid h2
      clear hk h1 h2
      go_enter Tryd.func23, Tryd.ntmps23
      go_upto_region 1 with (fail)
      obtain ⟨W0, hW0⟩ : ∃ W0, W0 = w.alloc (.cells #[.int .u8 h.h.k, .int .u8 h.h.op, .int .i64 h.h.pl, .int .i64 h.h.n, .string h.h.name, .string h.h.arg, .string h.h.exn, .int .i64 h.rho, .slice v.ra h.rhos.length v.rc, .slice v.ea h.e.length v.ec, .int .u8 h.ty.h.k, .int .i64 h.ty.h.r, .slice v.tea h.ty.h.e.length v.tec, .slice v.tka h.ty.ks.length v.tkc, .int .u8 h.re.h.k, .int .i64 h.re.h.r, .slice v.sea h.re.h.e.length v.sec, .slice v.ska h.re.ks.length v.skc, .slice v.ka l v.kc] 33) := ⟨_, rfl⟩
      have hbx : Box W0 w.heap.size h v l := by rw [hW0]; exact box_of (w := w) (h := h) (v := v) (l := l)
      have hb0 : Below w.heap.size w W0 := by rw [hW0]; exact box_new _
      rw [← hW0]
      clear hW0
      generalize hN0 : w.heap.size = N0 at hbx ⊢
      have HB0 := Lib.hid hb0; have HBX := Lib.hid hbx
      obtain ⟨b0, b1, b2, b3, b4, b5, b6, b7, b8, b9, b10, b11, b12, b13, b14, b15, b16, b17, b18⟩ := hbx
      clear hb0 hN0 b1 b2 b3 b4 b5 b6 b7 b9 b10 b11 b12 b13 b14 b15 b16 b17 b18
      rw [HK.out] at b0
      go_wp2_with (fail)
      go_ret
      exact ⟨_, _, _, rfl, rfl, HD.out.below HB0.out, HB0.out, .inl HD0.out⟩
    · rw [if_neg h2] at hk
      rw [hk]
      have H1 := Lib.hid h1; have H2 := Lib.hid h2
      clear hk h1 h2
      go_enter Tryd.func23, Tryd.ntmps23
      go_upto_region 1 with (fail)
      obtain ⟨W0, hW0⟩ : ∃ W0, W0 = w.alloc (.cells #[.int .u8 h.h.k, .int .u8 h.h.op, .int .i64 h.h.pl, .int .i64 h.h.n, .string h.h.name, .string h.h.arg, .string h.h.exn, .int .i64 h.rho, .slice v.ra h.rhos.length v.rc, .slice v.ea h.e.length v.ec, .int .u8 h.ty.h.k, .int .i64 h.ty.h.r, .slice v.tea h.ty.h.e.length v.tec, .slice v.tka h.ty.ks.length v.tkc, .int .u8 h.re.h.k, .int .i64 h.re.h.r, .slice v.sea h.re.h.e.length v.sec, .slice v.ska h.re.ks.length v.skc, .slice v.ka l v.kc] 33) := ⟨_, rfl⟩
      have hbx : Box W0 w.heap.size h v l := by rw [hW0]; exact box_of (w := w) (h := h) (v := v) (l := l)
      have hb0 : Below w.heap.size w W0 := by rw [hW0]; exact box_new _
      rw [← hW0]
      clear hW0
      generalize hN0 : w.heap.size = N0 at hbx ⊢
      have HB0 := Lib.hid hb0; have HBX := Lib.hid hbx
      obtain ⟨b0, b1, b2, b3, b4, b5, b6, b7, b8, b9, b10, b11, b12, b13, b14, b15, b16, b17, b18⟩ := hbx
      clear hb0 hN0 b1 b2 b3 b4 b5 b6 b7 b8 b9 b10 b11 b12 b13 b14 b15 b16 b17 b18
      have h1 := H1.out; have h2 := H2.out
      go_wp2_with (fail)
      go_ret
      exact ⟨_, _, _, rfl, rfl, rd_nil _ _, HB0.out, .inl (rd_nil _ _)⟩

/-! ### A map of what was met -/
def tokR (v : Value) : Option (DataW Value × List MemPlace) := some (.held v, [])
theorem tok_inj {v u : Value} {ps : List MemPlace} (h : tokR v = some (.held u, ps)) : v = u := by
  unfold tokR at h
  simp at h
  exact h.1
def I64 (x : Int) : Prop := -9223372036854775808 ≤ x ∧ x ≤ 9223372036854775807
theorem intKeyed : Keyed Tryd.prog 3 := int_keyed Tryd.underlying3
theorem key_of {x : Int} (h : I64 x) : keyOf Tryd.prog 3 (.int .i64 x) = some (Lit.int .i64 x) := keyOf_int_mk Tryd.underlying3 (WalkArith.wf_i64 h)
/-- Block b is a map that tells true of what was met. -/
def SetAt (w : World) (b : Nat) (met : List Int) : Prop :=
  ∃ (n : Nat) (D : DataW Value), w.ownsMap Tryd.prog 3 tokR b n D ∧ n ≤ met.length ∧ ∀ x, I64 x → ∀ z, D.atKey (.int .i64 x) z = if x ∈ met then .held (.bool true) else z
theorem SetAt.new (w : World) : SetAt (w.alloc (.map #[] 0)) w.heap.size [] := ⟨0, _, World.ownsMap_made w _ _ _, Nat.le_refl _, fun x _ z => rfl⟩
theorem SetAt.lt {w : World} {b : Nat} {met : List Int} (h : SetAt w b met) : b < w.heap.size := by obtain ⟨_, D, h, _⟩ := h; exact h.lt
theorem SetAt.of_block {w w' : World} {b : Nat} {met : List Int} (h : SetAt w b met) (hb : w'.heap[b]? = w.heap[b]?) : SetAt w' b met := by
  obtain ⟨n, D, ⟨es, clock, h1, h2⟩, k⟩ := h
  exact ⟨n, D, ⟨es, clock, hb.trans h1, h2⟩, k⟩
theorem SetAt.below {w w' : World} {b : Nat} {met : List Int} (h : SetAt w b met) (hb : Below w.heap.size w w') : SetAt w' b met := h.of_block (hb.block b h.lt)
theorem zeroBool (w : World) : (zeroValue 4).run Tryd.prog w = .ok (.bool false) w := by kernel_rfl
theorem SetAt.look {w : World} {b : Nat} {met : List Int} (h : SetAt w b met) {x : Int} (hx : I64 x) :
    (Instr.lookup 49 (.map (some b)) (.int .i64 x) false).run Tryd.prog w = .ok (.bool (met.contains x)) w := by
  obtain ⟨n, D, h, _, k⟩ := h
  obtain ⟨v, ps, hrun, hv⟩ := h.lookup intKeyed Tryd.underlying49 (zeroBool w) (zd := .held (.bool false)) (zp := []) rfl (key_of hx)
  rw [k x hx] at hv
  rw [hrun]
  by_cases hm : x ∈ met
  · rw [if_pos hm] at hv; rw [tok_inj hv]; simp [hm]
  · rw [if_neg hm] at hv; rw [tok_inj hv]; simp [hm]
theorem SetAt.store {w : World} {b : Nat} {met : List Int} (h : SetAt w b met) (hn : met.length < maxLen) {x : Int} (hx : I64 x) :
    ∃ w', (Instr.mapUpdate 49 (.map (some b)) (.int .i64 x) (.bool true)).run Tryd.prog w = .ok () w' ∧ SetAt w' b (met ++ [x]) ∧ w.grownBy w' (some b) ∧ w'.heap.size = w.heap.size := by
  obtain ⟨n, D, h, hl, k⟩ := h
  obtain ⟨w', hrun, h', ht'⟩ := h.store intKeyed Tryd.underlying49 (Nat.lt_of_le_of_lt hl hn) (d := .held (.bool true)) (ps := []) (key_of hx) rfl
  refine ⟨w', hrun, ⟨n + 1, _, h', by simp; exact hl, fun y hy z => ?_⟩, ht'.grown, ?_⟩
  · by_cases e : y = x
    · subst e
      rw [atKey_put_same h.isMap (show WideAt.IsKeyLit (Lit.int .i64 y) from trivial), if_pos (by simp)]
    · rw [atKey_put_other, k y hy z]
      · simp [e]
      · intro he
        exact e (Lit.int.inj he).2
  · obtain ⟨es, clock, es', clock', _, rfl⟩ := ht'
    simp [setBlock]
set_option maxRecDepth 100000 in
/-- 'm[x] = true' at the operation. -/
theorem wpList_meet {w : World} {ops : Array Oper} {rest : List Oper} {a : Act} {Q : Exit → Act → World → Prop} {ps : String} {ty : TypeId} {af : Array Edge} {m x v : Operand} (b : Nat) (met : List Int) (y : Int)
    (hm : a.eval m = .map (some b)) (hx : a.eval x = .int .i64 y) (hv : a.eval v = .bool true) (h : SetAt w b met) (hn : met.length < maxLen) (hi : I64 y)
    (hK : ∀ w', SetAt w' b (met ++ [y]) → w.grownBy w' (some b) → w'.heap.size = w.heap.size → wpList Tryd.prog ops Q rest a w') :
    wpList Tryd.prog ops Q ({ dst := none, op := .mapUpdate 49 m x v, type := ty, pos := ps, after := af, guard := none } :: rest) a w := by
  refine wpList_plain rfl fun K' hK' => ?_
  obtain ⟨w', hrun, r1, r2, r3⟩ := h.store hn hi
  unfold Oper.wp
  clear h hn hi
  simp [execOp, hm, hx, hv, hrun, Result.andThen]
  exact hK' _ _ (hK w' r1 r2 r3)
end Aterm
end Go.Proofs.YtolpdhkgkjnbfaaDoor
namespace Go.Proofs.YtolpdhkgkjnbfaaDoor
open Go.RowKit
set_option linter.unusedVariables false
set_option linter.unusedSimpArgs false
namespace Aterm
open Effect (RdI nget nget_at nget_mem Ixs intsV own_slice)
open Rt (box_new box_at below_then)

/-- A row of nodes that was made, as it lies later. -/
structure AllAt (w0 W : World) (g c : Nat) (F : List AT) : Prop where
  own : ∃ B xs, W.ownsRow B 33 19 (.slice (some ⟨g, 0, none⟩) F.length c) F.length xs ∧ Flat w0 xs F
theorem AllAt.below {w0 W W' : World} {g c : Nat} {F : List AT} (h : AllAt w0 W g c F) (hb : Below W.heap.size W W') : AllAt w0 W' g c F := by
  obtain ⟨B, xs, h1, h2⟩ := h.own
  exact ⟨B, xs, own_below h1 hb, h2⟩
theorem ixs_ne {B m g : Nat} {W : World} {v : Value} {l : List Int} (h : Ixs B W v m l) {cur : Array Value} {fr : Nat × Nat} (hg : W.heap[g]? = some (.cells cur 33 fr)) : some g ≠ v.ownBlock := by
  intro e
  rcases h.2 with ⟨rfl, _⟩ | ⟨k, cap, cur', rfl, _, hk, _⟩
  · simp [Value.ownBlock] at e
  · simp [Value.ownBlock] at e
    subst e
    rw [hg] at hk
    injection hk with hk
    injection hk with _ hk _
    exact absurd hk (by decide)
theorem AllAt.grown {w0 W W' : World} {g c B m : Nat} {F : List AT} {v : Value} {l : List Int} (h : AllAt w0 W g c F) (hi : Ixs B W v m l) (hg : W.grownBy W' v.ownBlock) : AllAt w0 W' g c F := by
  obtain ⟨B', xs, h1, h2⟩ := h.own
  refine ⟨B', xs, h1.kept hg ?_, h2⟩
  rcases h1.2 with ⟨e, _⟩ | ⟨k, cap, cur, e, _, hk, _⟩
  · cases e
  · injection e with e
    injection e with e
    injection e with e
    subst e
    exact .inr (ixs_ne hi hk)
theorem AllAt.get {w0 W : World} {g c : Nat} {F : List AT} (h : AllAt w0 W g c F) (j : Nat) (hj : j < F.length) :
    ∃ v, AtIs w0 (tget F j).h v (tget F j).ks.length (tget F j) ∧ W.rangeAt g (j * 19) (acells (tget F j).h v (tget F j).ks.length) := by
  obtain ⟨B, xs, h1, h2⟩ := h.own
  obtain ⟨v, h3, h4⟩ := h2.get j hj
  refine ⟨v, h3, fun i x hx => ?_⟩
  have := h1.cells (g := g) rfl _ _ (h4 i x hx)
  rw [Addr.add_lit, Nat.zero_add] at this
  exact this
theorem own_lower {W : World} {B B' e s n : Nat} {v : Value} {xs : List Value} (h : W.ownsRow B e s v n xs) (hB : B' ≤ B) : W.ownsRow B' e s v n xs :=
  ⟨h.1, h.2.imp id (fun ⟨g, cap, cur, a, b, r⟩ => ⟨g, cap, cur, a, by omega, r⟩)⟩

end Aterm
end Go.Proofs.YtolpdhkgkjnbfaaDoor
namespace Go.Proofs.YtolpdhkgkjnbfaaDoor
open Go.RowKit
set_option linter.unusedVariables false
set_option linter.unusedSimpArgs false
namespace Aterm
theorem wts_ge : ∀ ts : List AT, ts.length ≤ wts ts
  | [] => by simp
  | t :: ts => by rw [wts_cons, List.length_cons]; have := wt_pos t; have := wts_ge ts; omega
/-! ### Without regions -/
/-- A head without regions. -/
def bareH (h : Hd) : Term.Hd := if h.h.k = 18 then { h.h with k := 2 } else h.h
mutual
def eraseT : AT → Term.Tm
  | .node h l => if h.h.k = 17 ∧ l ≠ [] then (eraseK l).headD (.node hd0.h []) else .node (bareH h) (eraseK l)
def eraseK : List AT → List Term.Tm
  | [] => []
  | t :: ts => eraseT t :: eraseK ts
end
theorem eraseT_eq (t : AT) : eraseT t = if t.h.h.k = 17 ∧ t.ks ≠ [] then (eraseK t.ks).headD (.node hd0.h []) else .node (bareH t.h) (eraseK t.ks) := by
  cases t
  conv => lhs; unfold eraseT
  rfl
theorem eraseK_nil : eraseK [] = [] := by unfold eraseK; rfl
theorem eraseK_cons (t : AT) (ts : List AT) : eraseK (t :: ts) = eraseT t :: eraseK ts := by conv => lhs; unfold eraseK
theorem eraseK_map : ∀ ts : List AT, eraseK ts = ts.map eraseT
  | [] => eraseK_nil
  | t :: ts => by rw [eraseK_cons, eraseK_map ts]; rfl
theorem eraseT_reg {t u : AT} {us : List AT} (hk : t.h.h.k = 17) (hs : t.ks = u :: us) : eraseT t = eraseT u := by
  rw [eraseT_eq, if_pos ⟨hk, by rw [hs]; simp⟩, hs, eraseK_cons]; rfl
theorem eraseT_no {t : AT} (hk : ¬ (t.h.h.k = 17 ∧ t.ks ≠ [])) : eraseT t = .node (bareH t.h) (eraseK t.ks) := by rw [eraseT_eq, if_neg hk]
end Aterm
end Go.Proofs.YtolpdhkgkjnbfaaDoor
namespace Go.Proofs.YtolpdhkgkjnbfaaDoor
open Go.RowKit
set_option linter.unusedVariables false
namespace Term

/-- What can be read in the one world reads so in the other. -/
def Reads (w0 W : World) : Prop := ∀ a v, w0.cell? a = some v → W.cell? a = some v
theorem Reads.of_below {w0 W : World} (h : Below w0.heap.size w0 W) : Reads w0 W := fun a v hv => (h.cell (World.block_lt_of_cell? w0 _ hv)).trans hv
theorem Reads.trans {a b c : World} (h : Reads a b) (k : Reads b c) : Reads a c := fun x v hv => k x v (h x v hv)
/-- The world, but for the blocks that aren't looked at. -/
def veil (P : Nat → Bool) (W : World) : World := { W with heap := W.heap.mapIdx fun i o => if P i = true then o else .cells #[] 0 }
theorem veil_at {P : Nat → Bool} {W : World} {b : Nat} (h : P b = true) : (veil P W).heap[b]? = W.heap[b]? := by
  unfold veil
  simp only [Array.getElem?_mapIdx]
  cases W.heap[b]? with
  | none => rfl
  | some o => simp [h]
theorem veil_seen {P : Nat → Bool} {W : World} {a : Addr} {v : Value} (h : (veil P W).cell? a = some v) : P a.block = true ∧ W.cell? a = some v := by
  cases hp : P a.block
  · unfold World.cell? veil at h
    simp only [Array.getElem?_mapIdx] at h
    cases ho : W.heap[a.block]? with
    | none => rw [ho] at h; simp at h
    | some o => rw [ho] at h; simp [hp] at h
  · exact ⟨rfl, by rw [← World.cell?_of_block (veil_at hp)]; exact h⟩
theorem veil_reads (P : Nat → Bool) (W : World) : Reads (veil P W) W := fun a v h => (veil_seen h).2
/-- From one to the other: what is seen of the one stands in the other, and is seen there. -/
theorem veil_to {P P' : Nat → Bool} {W W' : World} (h : ∀ b, b < W.heap.size → P b = true → P' b = true ∧ W'.heap[b]? = W.heap[b]?) : Reads (veil P W) (veil P' W') := fun a v hv => by
  obtain ⟨hp, hw⟩ := veil_seen hv
  obtain ⟨h1, h2⟩ := h a.block (World.block_lt_of_cell? W _ hw) hp
  rw [World.cell?_of_block (veil_at h1), World.cell?_of_block h2]
  exact hw
theorem Kids.reads' {w W : World} {p : Option Addr} {ts : List Tm} (h : Kids w p ts) (hb : Reads w W) : Kids W p ts := by
  induction h with
  | nokids p => exact .nokids p
  | atkids b o ts q c hh hc hl hk ih => exact .atkids b o ts q c hh (fun i hi j v hv => hb _ _ (hc i hi j v hv)) hl (fun i hi => ih i hi)
theorem TmIs.reads' {w W : World} {h : Hd} {p : Option Addr} {l c : Nat} {t : Tm} (k : TmIs w h p l c t) (hb : Reads w W) : TmIs W h p l c t := ⟨k.head, k.len, k.ok, k.cap, k.kids.reads' hb⟩
theorem Flat.reads {w W : World} (hb : Reads w W) : ∀ {ts : List Tm} {xs : List Value}, Flat w xs ts → Flat W xs ts
  | [], xs, h => h
  | t :: ts, xs, ⟨q, c, zs, he, hT, h⟩ => ⟨q, c, zs, he, hT.reads' hb, h.reads hb⟩
/-- A row of terms whose kids are there. -/
theorem kids_of_flat {W : World} {b : Nat} {xs : List Value} {ts : List Tm} (hc : ∀ j u, xs[j]? = some u → W.cell? ⟨b, j, none⟩ = some u) (hf : Flat W xs ts) : Kids W (some ⟨b, 0, none⟩) ts := by
  have each : ∀ i, ∃ r : Option Addr × Nat, i < ts.length → TmIs W (tget ts i).h r.1 (tget ts i).ks.length r.2 (tget ts i) ∧ ∀ j v, (tcells (tget ts i).h r.1 (tget ts i).ks.length r.2)[j]? = some v → xs[i * 8 + j]? = some v := by
    intro i
    by_cases hi : i < ts.length
    · obtain ⟨q, c, h1, h2⟩ := hf.get i hi
      exact ⟨(q, c), fun _ => ⟨h1, h2⟩⟩
    · exact ⟨(none, 0), fun h => absurd h hi⟩
  obtain ⟨R, hR⟩ := Classical.axiomOfChoice each
  refine .atkids b 0 ts (fun i => (R i).1) (fun i => (R i).2) (fun i hi => (hR i hi).1.ok) (fun i hi j v hv => ?_) (fun i hi => (hR i hi).1.cap) (fun i hi => (hR i hi).1.kids)
  rw [Nat.zero_add]
  exact hc _ _ ((hR i hi).2 j v hv)
end Term
end Go.Proofs.YtolpdhkgkjnbfaaDoor
namespace Go.Proofs.YtolpdhkgkjnbfaaDoor
open Go.RowKit
set_option linter.unusedVariables false
namespace Term

theorem own_below {w W : World} {B e size n : Nat} {v : Value} {xs : List Value} (h : w.ownsRow B e size v n xs) (hb : Below w.heap.size w W) : W.ownsRow B e size v n xs :=
  h.kept (row := none) ⟨hb.os, hb.tape, hb.output, hb.size, fun q hq _ => hb.block q hq⟩ (by cases v.ownBlock <;> simp)

end Term
end Go.Proofs.YtolpdhkgkjnbfaaDoor
namespace Go.Proofs.YtolpdhkgkjnbfaaDoor
open Go.RowKit
set_option linter.unusedVariables false
namespace Term

theorem below_then {B : Nat} {a w1 w2 : World} (h : Below B a w1) (hb : Below w1.heap.size w1 w2) (hB : B ≤ w1.heap.size) : Below B a w2 := h.trans (hb.mono hB)
theorem own_slice {w : World} {base e size n : Nat} {v : Value} {xs : List Value} (h : w.ownsRow base e size v n xs) : ∃ a c, v = .slice a n c ∧ c ≤ 9223372036854775807 ∧ n ≤ c := by
  rcases h.2 with ⟨hv, h0⟩ | ⟨g, cap, _, hv, _, _, h1, h2, _⟩
  · subst h0; exact ⟨none, 0, hv, by omega, Nat.le_refl _⟩
  · unfold maxLen at h2; exact ⟨_, cap, hv, by omega, h1⟩
end Term
end Go.Proofs.YtolpdhkgkjnbfaaDoor
