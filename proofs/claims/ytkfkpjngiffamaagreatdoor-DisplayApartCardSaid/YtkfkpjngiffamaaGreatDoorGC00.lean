import Derived.Test.YtkfkpjngiffamaaGreatDoorRows
import Derived.WalkKit
import Derived.Below
import Derived.Deep.Slices
import Derived.Deep.Fields
import Derived.LoopTactic
import Derived.Outline
import Derived.Lib.Hide
import Derived.IntWalk
import Derived.Lib.Bytealg
import Derived.WalkLawsBesides
import Derived.Lib.Walk
import Derived.WalkSmall
import Derived.Lib.BytesEntry
import Derived.Deep.QuietTactic
import Derived.BigQuiet
import Derived.Deep.DeepFit
import Derived.Lib.SlBytesConst
import Derived.Lib.ItoaLen
import Derived.Lib.Strings
import Derived.Lib.ParseIntBCases
namespace Go.Proofs.YtkfkpjngiffamaaGreatDoor
open Go.RowKit Go.ChangeShapes Go.WideShapes Go.Deep
set_option linter.unusedVariables false
namespace Term

structure Hd where
 k : Int
 op : Int
 pl : Int
 n : Int
 name : ByteArray
 arg : ByteArray
 exn : ByteArray
inductive Tm where
 | node : Hd → List Tm → Tm
def Tm.h : Tm → Hd
 | .node h _ => h
def Tm.ks : Tm → List Tm
 | .node _ l => l
mutual
def wt : Tm → Nat
 | .node _ l => wts l + 1
def wts : List Tm → Nat
 | [] => 0
 | t :: ts => wt t + wts ts
end
theorem wt_pos (t : Tm) : 0 < wt t := by cases t; unfold wt; omega
theorem wt_ks (t : Tm) : wt t = wts t.ks + 1 := by cases t; unfold wt; rfl
theorem wts_nil : wts [] = 0 := by unfold wts; rfl
theorem wts_cons (t : Tm) (ts : List Tm) : wts (t :: ts) = wt t + wts ts := by conv => lhs; unfold wts
theorem wts_append : ∀ (ts us : List Tm), wts (ts ++ us) = wts ts + wts us
 | [], us => by rw [wts_nil]; simp
 | t :: ts, us => by rw [List.cons_append, wts_cons, wts_cons, wts_append ts us]; omega
def tget (ts : List Tm) (i : Nat) : Tm := ts.getD i (.node ⟨0, 0, 0, 0, ByteArray.empty, ByteArray.empty, ByteArray.empty⟩ [])
theorem tget_at {ts : List Tm} {i : Nat} (h : i < ts.length) : ts[i]? = some (tget ts i) := by
 unfold tget
 rw [List.getD_eq_getElem?_getD, List.getElem?_eq_getElem h]
 rfl
theorem tget_mem {ts : List Tm} {i : Nat} (h : i < ts.length) : tget ts i ∈ ts := List.mem_of_getElem? (tget_at h)
theorem wts_mem : ∀ {ts : List Tm} {t : Tm}, t ∈ ts → wt t ≤ wts ts
 | t :: ts, u, h => by
  rw [wts_cons]
  rcases List.mem_cons.1 h with rfl | h
  ·omega
  ·have := wts_mem h; omega
theorem wts_get {ts : List Tm} {i : Nat} (h : i < ts.length) : wt (tget ts i) ≤ wts ts := wts_mem (tget_mem h)

def hcells (h : Hd) : List Value := [.int .u8 h.k, .int .u8 h.op, .int .i64 h.pl, .int .i64 h.n, .string h.name, .string h.arg, .string h.exn]
def tcells (h : Hd) (p : Option Addr) (l c : Nat) : List Value := [.int .u8 h.k, .int .u8 h.op, .int .i64 h.pl, .int .i64 h.n, .string h.name, .string h.arg, .string h.exn, .slice p l c]
structure HdOk (h : Hd) : Prop where
 k : 0 ≤ h.k ∧ h.k ≤ 255
 op : 0 ≤ h.op ∧ h.op ≤ 255
 pl : -9223372036854775808 ≤ h.pl ∧ h.pl ≤ 9223372036854775807
 n : -9223372036854775808 ≤ h.n ∧ h.n ≤ 9223372036854775807
 name : h.name.size ≤ maxLen
 arg : h.arg.size ≤ maxLen
 exn : h.exn.size ≤ maxLen

inductive Kids (w : World) : Option Addr → List Tm → Prop where
 | nokids (p : Option Addr) : Kids w p []
 | atkids (b o : Nat) (ts : List Tm) (q : Nat → Option Addr) (c : Nat → Nat)
   (hh : ∀ i, i < ts.length → HdOk (tget ts i).h)
   (hc : ∀ i, i < ts.length → ∀ j v, (tcells (tget ts i).h (q i) (tget ts i).ks.length (c i))[j]? = some v → w.cell? ⟨b, o + i * 8 + j, none⟩ = some v)
   (hl : ∀ i, i < ts.length → (tget ts i).ks.length ≤ c i ∧ c i ≤ maxLen)
   (hk : ∀ i, i < ts.length → Kids w (q i) (tget ts i).ks) : Kids w (some ⟨b, o, none⟩) ts

structure TmIs (w : World) (h : Hd) (p : Option Addr) (l c : Nat) (t : Tm) : Prop where
 head : t.h = h
 len : t.ks.length = l
 ok : HdOk h
 cap : l ≤ c ∧ c ≤ maxLen
 kids : Kids w p t.ks

theorem Kids.get {w : World} {p : Option Addr} {ts : List Tm} (h : Kids w p ts) (i : Nat) (hi : i < ts.length) :
  ∃ b o q c, p = some ⟨b, o, none⟩ ∧ TmIs w (tget ts i).h q (tget ts i).ks.length c (tget ts i) ∧
   w.cell? ⟨b, o + i * 8, none⟩ = some (.int .u8 (tget ts i).h.k) ∧ w.cell? ⟨b, o + i * 8 + 1, none⟩ = some (.int .u8 (tget ts i).h.op) ∧ w.cell? ⟨b, o + i * 8 + 2, none⟩ = some (.int .i64 (tget ts i).h.pl) ∧
   w.cell? ⟨b, o + i * 8 + 3, none⟩ = some (.int .i64 (tget ts i).h.n) ∧ w.cell? ⟨b, o + i * 8 + 4, none⟩ = some (.string (tget ts i).h.name) ∧ w.cell? ⟨b, o + i * 8 + 5, none⟩ = some (.string (tget ts i).h.arg) ∧
   w.cell? ⟨b, o + i * 8 + 6, none⟩ = some (.string (tget ts i).h.exn) ∧ w.cell? ⟨b, o + i * 8 + 7, none⟩ = some (.slice q (tget ts i).ks.length c) := by
 cases h with
 | nokids => simp at hi
 | atkids b o _ q c hh hc hl hk =>
  have hci := hc i hi
  exact ⟨b, o, q i, c i, rfl, ⟨rfl, rfl, hh i hi, hl i hi, hk i hi⟩, hci 0 _ rfl, hci 1 _ rfl, hci 2 _ rfl, hci 3 _ rfl, hci 4 _ rfl, hci 5 _ rfl, hci 6 _ rfl, hci 7 _ rfl⟩
theorem Kids.stay {w W : World} {p : Option Addr} {ts : List Tm} (h : Kids w p ts) (hb : Below w.heap.size w W) : Kids W p ts := by
 induction h with
 | nokids p => exact .nokids p
 | atkids b o ts q c hh hc hl hk ih =>
  refine .atkids b o ts q c hh (fun i hi j v hv => ?_) hl (fun i hi => ih i hi)
  have h0 := hc i hi j v hv
  exact (hb.cell (p := ⟨b, o + i * 8 + j, none⟩) (World.block_lt_of_cell? w _ h0)).trans h0
theorem TmIs.below {w W : World} {h : Hd} {p : Option Addr} {l c : Nat} {t : Tm} (k : TmIs w h p l c t) (hb : Below w.heap.size w W) : TmIs W h p l c t := ⟨k.head, k.len, k.ok, k.cap, k.kids.stay hb⟩

theorem list8 {α : Type} {l : List α} (h : l.length = 8) : ∃ a b c d e f g i, l = [a, b, c, d, e, f, g, i] := by
 match l, h with
 | [a, b, c, d, e, f, g, i], _ => exact ⟨a, b, c, d, e, f, g, i, rfl⟩
theorem list7 {α : Type} {l : List α} (h : l.length = 7) : ∃ a b c d e f g, l = [a, b, c, d, e, f, g] := by
 match l, h with
 | [a, b, c, d, e, f, g], _ => exact ⟨a, b, c, d, e, f, g, rfl⟩
theorem list2 {α : Type} {l : List α} (h : l.length = 2) : ∃ a b, l = [a, b] := by
 match l, h with
 | [a, b], _ => exact ⟨a, b, rfl⟩
theorem hdFields : ∃ f0 f1 f2 f3 f4 f5 f6 : Field, Tryz.prog.underlying 23 = some (.struct #[f0, f1, f2, f3, f4, f5, f6]) ∧ oneCellFields Tryz.prog #[f0, f1, f2, f3, f4, f5, f6] = true ∧
  Tryz.prog.underlying f0.type = some (.int .u8) ∧ Tryz.prog.underlying f1.type = some (.int .u8) ∧ Tryz.prog.underlying f2.type = some (.int .i64) ∧ Tryz.prog.underlying f3.type = some (.int .i64) ∧
  Tryz.prog.underlying f4.type = some .string ∧ Tryz.prog.underlying f5.type = some .string ∧ Tryz.prog.underlying f6.type = some .string :=
 ⟨_, _, _, _, _, _, _, Tryz.underlying23, by kernel_rfl, by kernel_rfl, by kernel_rfl, by kernel_rfl, by kernel_rfl, by kernel_rfl, by kernel_rfl, by kernel_rfl⟩
theorem hdCells : Tryz.prog.cellsOf 23 = 7 := by kernel_rfl
theorem tmCells : Tryz.prog.cellsOf 89 = 8 := by kernel_rfl
theorem tmFields : ∃ f0 f1 : Field, Tryz.prog.underlying 89 = some (.struct #[f0, f1]) ∧ f0.type = 23 ∧ f1.type = 87 ∧ f0.offset = 0 ∧ f1.offset = 7 ∧ Tryz.prog.cellsOf f1.type = 1 :=
 ⟨_, _, Tryz.underlying89, by kernel_rfl, by kernel_rfl, by kernel_rfl, by kernel_rfl, by kernel_rfl⟩

section
variable {H : Type} {enc : TypeId × Value → H} {w : World} {base : Nat} {sp : Nat → Bool} {held : Bool}
theorem wf_u8 {n : Int} (h : (Lit.int .u8 n).wf = true) : 0 ≤ n ∧ n ≤ 255 := by
 simp [Lit.wf, IntKind.min, IntKind.max, IntKind.signed, IntKind.bits] at h
 omega
theorem wf_i64 {n : Int} (h : (Lit.int .i64 n).wf = true) : -9223372036854775808 ≤ n ∧ n ≤ 9223372036854775807 := by
 simp [Lit.wf, IntKind.min, IntKind.max, IntKind.signed, IntKind.bits] at h
 omega
theorem open_hd {fuel : Nat} {cs : List Value} {y : DataW H × List MemPlace} (h : DataW.trod enc Tryz.prog w base sp held fuel 23 cs = some y) : ∃ hd : Hd, cs = hcells hd ∧ HdOk hd := by
 obtain ⟨f0, f1, f2, f3, f4, f5, f6, hu, hone, u0, u1, u2, u3, u4, u5, u6⟩ := hdFields
 obtain ⟨xs, n, _, _, hlen, hxl, hf⟩ := DataW.trod_struct hu h
 rw [hdCells] at hlen
 obtain ⟨c0, c1, c2, c3, c4, c5, c6, rfl⟩ := list7 hlen
 have hxl' : xs.length = 7 := hxl
 obtain ⟨y0, y1, y2, y3, y4, y5, y6, rfl⟩ := list7 hxl'
 obtain ⟨o0, k0⟩ := hone_of hone 0 f0 rfl
 obtain ⟨o1, k1⟩ := hone_of hone 1 f1 rfl
 obtain ⟨o2, k2⟩ := hone_of hone 2 f2 rfl
 obtain ⟨o3, k3⟩ := hone_of hone 3 f3 rfl
 obtain ⟨o4, k4⟩ := hone_of hone 4 f4 rfl
 obtain ⟨o5, k5⟩ := hone_of hone 5 f5 rfl
 obtain ⟨o6, k6⟩ := hone_of hone 6 f6 rfl
 have h0 := hf 0 f0 rfl
 have h1 := hf 1 f1 rfl
 have h2 := hf 2 f2 rfl
 have h3 := hf 3 f3 rfl
 have h4 := hf 4 f4 rfl
 have h5 := hf 5 f5 rfl
 have h6 := hf 6 f6 rfl
 rw [o0, k0] at h0; rw [o1, k1] at h1; rw [o2, k2] at h2; rw [o3, k3] at h3; rw [o4, k4] at h4; rw [o5, k5] at h5; rw [o6, k6] at h6
 have e0 : DataW.trod enc Tryz.prog w base sp held n f0.type [c0] = some y0 := h0
 have e1 : DataW.trod enc Tryz.prog w base sp held n f1.type [c1] = some y1 := h1
 have e2 : DataW.trod enc Tryz.prog w base sp held n f2.type [c2] = some y2 := h2
 have e3 : DataW.trod enc Tryz.prog w base sp held n f3.type [c3] = some y3 := h3
 have e4 : DataW.trod enc Tryz.prog w base sp held n f4.type [c4] = some y4 := h4
 have e5 : DataW.trod enc Tryz.prog w base sp held n f5.type [c5] = some y5 := h5
 have e6 : DataW.trod enc Tryz.prog w base sp held n f6.type [c6] = some y6 := h6
 obtain ⟨K, r0, _, g0⟩ := DataW.trod_int u0 e0
 obtain ⟨O, r1, _, g1⟩ := DataW.trod_int u1 e1
 obtain ⟨P, r2, _, g2⟩ := DataW.trod_int u2 e2
 obtain ⟨N, r3, _, g3⟩ := DataW.trod_int u3 e3
 obtain ⟨s4, r4, _, g4⟩ := DataW.trod_string u4 e4
 obtain ⟨s5, r5, _, g5⟩ := DataW.trod_string u5 e5
 obtain ⟨s6, r6, _, g6⟩ := DataW.trod_string u6 e6
 injection r0 with r0; injection r1 with r1; injection r2 with r2; injection r3 with r3; injection r4 with r4; injection r5 with r5; injection r6 with r6
 subst r0 r1 r2 r3 r4 r5 r6
 exact ⟨⟨K, O, P, N, s4, s5, s6⟩, rfl, ⟨wf_u8 g0, wf_u8 g1, wf_i64 g2, wf_i64 g3, g4, g5, g6⟩⟩

theorem open_all : ∀ fuel : Nat,
  (∀ (cs : List Value) (y : DataW H × List MemPlace), DataW.trod enc Tryz.prog w base sp held fuel 89 cs = some y → ∃ h p l c t, cs = tcells h p l c ∧ TmIs w h p l c t) ∧
  (∀ (cs : List Value) (y : DataW H × List MemPlace), DataW.trod enc Tryz.prog w base sp held fuel 87 cs = some y → ∃ p l c ts, cs = [.slice p l c] ∧ ts.length = l ∧ l ≤ c ∧ c ≤ maxLen ∧ Kids w p ts) := by
 intro fuel
 induction fuel using Nat.strongRecOn with
 | _ fuel ih =>
  constructor
  ·intro cs y h
   obtain ⟨f0, f1, hu, t0, t1, o0, o1, k1⟩ := tmFields
   obtain ⟨xs, n, hfuel, _, hlen, hxl, hf⟩ := DataW.trod_struct hu h
   rw [tmCells] at hlen
   obtain ⟨c0, c1, c2, c3, c4, c5, c6, c7, rfl⟩ := list8 hlen
   have hxl' : xs.length = 2 := hxl
   obtain ⟨y0, y1, rfl⟩ := list2 hxl'
   have h0 := hf 0 f0 rfl
   have h1 := hf 1 f1 rfl
   rw [t0, hdCells, o0] at h0
   rw [k1, t1, o1] at h1
   have e0 : DataW.trod enc Tryz.prog w base sp held n 23 [c0, c1, c2, c3, c4, c5, c6] = some y0 := h0
   have e1 : DataW.trod enc Tryz.prog w base sp held n 87 [c7] = some y1 := h1
   obtain ⟨hd, hcs, hok⟩ := open_hd e0
   obtain ⟨p, l, c, ts, hcs1, hl, hlc, hcm, hk⟩ := (ih n (by omega)).2 _ _ e1
   injection hcs1 with hcs1
   subst hcs1
   refine ⟨hd, p, l, c, .node hd ts, ?_, ⟨rfl, hl, hok, ⟨hlc, hcm⟩, hk⟩⟩
   unfold hcells at hcs
   unfold tcells
   simp only [List.cons.injEq, and_true] at hcs ⊢
   exact hcs
  ·intro cs y h
   rcases DataW.trod_slice Tryz.underlying87 h with ⟨rfl, _⟩ | ⟨a, len, cap, elems, rest, n, hfuel, rfl, _, hb, hl, hm, hlen, hel, _, _⟩
   ·exact ⟨none, 0, 0, [], rfl, rfl, Nat.le_refl _, by unfold maxLen; omega, Kids.nokids _⟩
   ·have each : ∀ i, i < len → ∃ h q l c t, TmIs w h q l c t ∧ ∀ j v, (tcells h q l c)[j]? = some v → w.cell? ((a.add (i * 8)).add j) = some v := by
     intro i hi
     have he := hel i hi
     rw [tmCells, List.getElem?_eq_getElem (by omega)] at he
     obtain ⟨cs', hc, ht⟩ := Option.bind_eq_some_iff.1 he
     obtain ⟨h, q, l, c, t, rfl, hT⟩ := (ih n (by omega)).1 _ _ ht
     obtain ⟨_, _, hcell⟩ := World.cells?_some hc
     refine ⟨h, q, l, c, t, hT, fun j v hv => ?_⟩
     have hj : j < 8 := by
      rcases Nat.lt_or_ge j 8 with h | h
      ·exact h
      ·rw [List.getElem?_eq_none (by simpa [tcells] using h)] at hv; cases hv
     rw [hcell j hj, hv]
    have each' : ∀ i, ∃ r : Option Addr × Nat × Tm, i < len → TmIs w r.2.2.h r.1 r.2.2.ks.length r.2.1 r.2.2 ∧ ∀ j v, (tcells r.2.2.h r.1 r.2.2.ks.length r.2.1)[j]? = some v → w.cell? ((a.add (i * 8)).add j) = some v := by
     intro i
     by_cases hi : i < len
     ·obtain ⟨h, q, l, c, t, hT, hc⟩ := each i hi
      have e1 := hT.head
      have e2 := hT.len
      subst e1 e2
      exact ⟨(q, c, t), fun _ => ⟨hT, hc⟩⟩
     ·exact ⟨(none, 0, .node ⟨0, 0, 0, 0, ByteArray.empty, ByteArray.empty, ByteArray.empty⟩ []), fun h => absurd h hi⟩
    obtain ⟨R, hR⟩ := Classical.axiomOfChoice each'
    obtain ⟨F, hFd⟩ : ∃ F : Nat → Tm, F = fun i => (R i).2.2 := ⟨_, rfl⟩
    obtain ⟨Q, hQd⟩ : ∃ Q : Nat → Option Addr, Q = fun i => (R i).1 := ⟨_, rfl⟩
    obtain ⟨C, hCd⟩ : ∃ C : Nat → Nat, C = fun i => (R i).2.1 := ⟨_, rfl⟩
    have hF : ∀ i, i < len → TmIs w (F i).h (Q i) (F i).ks.length (C i) (F i) ∧ ∀ j v, (tcells (F i).h (Q i) (F i).ks.length (C i))[j]? = some v → w.cell? ((a.add (i * 8)).add j) = some v := by
     subst hFd hQd hCd
     exact hR
    have hlen' : ((List.range len).map F).length = len := by simp
    have hget : ∀ i, i < len → tget ((List.range len).map F) i = F i := by
     intro i hi
     unfold tget
     rw [List.getD_eq_getElem?_getD, List.getElem?_map, List.getElem?_range hi]
     rfl
    refine ⟨some a, len, cap, (List.range len).map F, rfl, hlen', hl, hm, ?_⟩
    by_cases h0 : len = 0
    ·subst h0; exact .nokids _
    ·obtain ⟨b, o, s⟩ := a
     have h1 := (hF 0 (by omega)).2 0 _ rfl
     have hs : s = none := by
      have := World.cell?_spot h1
      simpa [Addr.add] using this
     subst hs
     refine .atkids b o _ Q C (fun i hi => ?_) (fun i hi j v hv => ?_) (fun i hi => ?_) (fun i hi => ?_)
     ·rw [hlen'] at hi; rw [hget i hi]; exact (hF i hi).1.ok
     ·rw [hlen'] at hi; rw [hget i hi] at hv
      have := (hF i hi).2 j v hv
      rw [Addr.add_lit, Addr.add_lit] at this
      exact this
     ·rw [hlen'] at hi; rw [hget i hi]; exact (hF i hi).1.cap
     ·rw [hlen'] at hi; rw [hget i hi]; exact (hF i hi).1.kids
end
end Term
end Go.Proofs.YtkfkpjngiffamaaGreatDoor
namespace Go.Proofs.YtkfkpjngiffamaaGreatDoor
open Go.RowKit
set_option linter.unusedVariables false
namespace Term

theorem ret_i64 {a b : Int} (h : a = b) : Ending.returned (.int .i64 a) = .returned (.int .i64 b) := by rw [h]
theorem ret_bool {a b : Bool} (h : a = b) : Ending.returned (.bool a) = .returned (.bool b) := by rw [h]
theorem drop_tget (ts : List Tm) (k : Nat) (h : k < ts.length) : ts.drop k = tget ts k :: ts.drop (k + 1) := by
 rw [List.drop_eq_getElem_cons h]
 have := tget_at h
 rw [List.getElem?_eq_getElem h] at this
 rw [Option.some.inj this]
theorem boxAt {w W : World} {cs : Array Value} {t : TypeId} (hb : Below (w.alloc (.cells cs t)).heap.size (w.alloc (.cells cs t)) W) (j : Nat) {v : Value} (hv : cs[j]? = some v) : W.cell? ⟨w.heap.size, j, none⟩ = some v := by
 have hlt : w.heap.size < (w.alloc (.cells cs t)).heap.size := by simp
 rw [hb.cell (p := ⟨w.heap.size, j, none⟩) hlt, World.cell?_alloc_mark, hv]

theorem take_tget (ts : List Tm) (k : Nat) (h : k < ts.length) : ts.take (k + 1) = ts.take k ++ [tget ts k] := by
 rw [List.take_add_one, tget_at h]; rfl
theorem wts_take_le : ∀ (ts : List Tm) (k : Nat), wts (ts.take k) ≤ wts ts
 | [], k => by simp
 | t :: ts, 0 => by rw [List.take_zero, wts_nil]; omega
 | t :: ts, k + 1 => by rw [List.take_succ_cons, wts_cons, wts_cons]; have := wts_take_le ts k; omega
end Term
end Go.Proofs.YtkfkpjngiffamaaGreatDoor
namespace Go.Proofs.YtkfkpjngiffamaaGreatDoor
namespace Chars

def cls (c : Int) : Int :=
 if c = 32 ∨ c = 9 ∨ c = 10 then 1
 else if 48 ≤ c ∧ c ≤ 57 then 2
 else if 97 ≤ c ∧ c ≤ 122 then 3
 else if 65 ≤ c ∧ c ≤ 90 then 4
 else if c ∈ [40, 41, 44, 33, 58, 61, 62, 43, 45, 42, 60, 59] then 5
 else 0

def ix (l : List UInt8) (c : Int) : Int := Lib.indexByte l c.toNat.toUInt8

theorem nonneg_iff (l : List UInt8) (c : UInt8) : 0 ≤ Lib.indexByte l c ↔ c ∈ l := by
 induction l with
 | nil => simp [Lib.indexByte]
 | cons b l ih =>
  unfold Lib.indexByte
  by_cases h : b = c
  ·simp [h]
  ·have h' : ¬ c = b := fun e => h e.symm
   simp only [beq_iff_eq, h, if_false, List.mem_cons, h', false_or, ← ih]
   have := Lib.indexByte_ge l c
   split <;> omega

theorem byte_eq (c : Int) (h0 : 0 ≤ c) (h1 : c ≤ 255) (k : Nat) (hk : k < 256) : c.toNat.toUInt8 = UInt8.ofNat k ↔ c = k := by
 rw [← UInt8.toNat_inj]
 simp
 omega

theorem blank_iff (c : Int) (h0 : 0 ≤ c) (h1 : c ≤ 255) : 0 ≤ ix [32, 9, 10] c ↔ (c = 32 ∨ c = 9 ∨ c = 10) := by
 unfold ix
 rw [nonneg_iff]
 simp only [List.mem_cons, List.not_mem_nil, or_false]
 have e := byte_eq c h0 h1
 have e1 := e 32 (by omega); have e2 := e 9 (by omega); have e3 := e 10 (by omega)
 simp only [UInt8.reduceOfNat] at e1 e2 e3
 rw [e1, e2, e3]
 rfl

theorem sign_iff (c : Int) (h0 : 0 ≤ c) (h1 : c ≤ 255) : 0 ≤ ix [40, 41, 44, 33, 58, 61, 62, 43, 45, 42, 60, 59] c ↔ c ∈ [40, 41, 44, 33, 58, 61, 62, 43, 45, 42, 60, 59] := by
 unfold ix
 rw [nonneg_iff]
 simp only [List.mem_cons, List.not_mem_nil, or_false]
 have e := byte_eq c h0 h1
 have e1 := e 40 (by omega); have e2 := e 41 (by omega); have e3 := e 44 (by omega); have e4 := e 33 (by omega)
 have e5 := e 58 (by omega); have e6 := e 61 (by omega); have e7 := e 62 (by omega); have e8 := e 43 (by omega)
 have e9 := e 45 (by omega); have e10 := e 42 (by omega); have e11 := e 60 (by omega); have e12 := e 59 (by omega)
 simp only [UInt8.reduceOfNat] at e1 e2 e3 e4 e5 e6 e7 e8 e9 e10 e11 e12
 rw [e1, e2, e3, e4, e5, e6, e7, e8, e9, e10, e11, e12]
 rfl

end Chars
end Go.Proofs.YtkfkpjngiffamaaGreatDoor
namespace Go.Proofs.YtkfkpjngiffamaaGreatDoor
open Go.RowKit
namespace Chars

set_option maxRecDepth 100000 in
theorem sliteIndexByte (s : ByteArray) (c : Int) (w : World) :
  Calls Tryz.prog 167 #[.string s, .int .u8 c] w fun e w' => e = .returned (.int .i64 (ix s.data.toList c)) ∧ w = w' := by
 go_enter Tryz.func167, Tryz.ntmps167
 go_wp2
 rw [run_callFunc_extern Tryz.func172 (by kernel_rfl) (by kernel_rfl) (by kernel_rfl) (e := Extern.BytealgIndexByte.indexByte) (by kernel_rfl), Lib.run_indexByteString]
 change Oper.upon _ _ _ _ _ (Result.andThen (.ok (Value.int .i64 (ix s.data.toList c)) w) _)
 simp only [Result.andThen]
 rw [Oper.upon_value]
 go_wp2
 go_ret
 exact ⟨rfl, rfl⟩

theorem indexByte (s : ByteArray) (c : Int) (w : World) :
  Calls Tryz.prog 160 #[.string s, .int .u8 c] w fun e w' => e = .returned (.int .i64 (ix s.data.toList c)) ∧ w = w' := by
 go_enter Tryz.func160, Tryz.ntmps160
 go_wp2_with (go_at_call 167; refine (sliteIndexByte _ _ _).mono ?_; rintro e w' ⟨rfl, rfl⟩)
 go_ret
 exact ⟨rfl, rfl⟩

theorem class_walk (c : Int) (h0 : 0 ≤ c) (h1 : c ≤ 255) (w : World) :
  Calls Tryz.prog 146 #[.int .u8 c] w fun e w' => e = .returned (.int .u8 (cls c)) ∧ w = w' := by
 have hb := blank_iff c h0 h1
 have hs := sign_iff c h0 h1
 by_cases b : c = 32 ∨ c = 9 ∨ c = 10
 ·have b' := hb.2 b
  have hc : cls c = 1 := by unfold cls; rw [if_pos b]
  have HC := Lib.hid hc
  clear hb hs hc b
  go_enter Tryz.func146, Tryz.ntmps146
  go_wp2_with (go_at_call 160; refine (indexByte _ _ _).mono ?_; rintro e w' ⟨rfl, rfl⟩)
  go_ret
  rw [HC.out]
  exact ⟨rfl, rfl⟩
 have b' : ¬ 0 ≤ ix [32, 9, 10] c := fun h => b (hb.1 h)
 by_cases d : 48 ≤ c ∧ c ≤ 57
 ·have hc : cls c = 2 := by unfold cls; rw [if_neg b, if_pos d]
  have HC := Lib.hid hc
  clear hb hs hc b
  obtain ⟨d1, d2⟩ := d
  go_enter Tryz.func146, Tryz.ntmps146
  go_wp2_with (go_at_call 160; refine (indexByte _ _ _).mono ?_; rintro e w' ⟨rfl, rfl⟩)
  go_ret
  rw [HC.out]
  exact ⟨rfl, rfl⟩
 by_cases s : 97 ≤ c ∧ c ≤ 122
 ·have hc : cls c = 3 := by unfold cls; rw [if_neg b, if_neg d, if_pos s]
  have HC := Lib.hid hc
  clear hb hs hc b
  obtain ⟨d1, d2⟩ := s
  have d3 : 48 ≤ c := by omega
  have d4 : ¬ c ≤ 57 := by omega
  clear d
  go_enter Tryz.func146, Tryz.ntmps146
  go_wp2_with (go_at_call 160; refine (indexByte _ _ _).mono ?_; rintro e w' ⟨rfl, rfl⟩)
  go_ret
  rw [HC.out]
  exact ⟨rfl, rfl⟩
 by_cases g : 65 ≤ c ∧ c ≤ 90
 ·have hc : cls c = 4 := by unfold cls; rw [if_neg b, if_neg d, if_neg s, if_pos g]
  have HC := Lib.hid hc
  clear hb hs hc b
  obtain ⟨d1, d2⟩ := g
  have d3 : 48 ≤ c := by omega
  have d4 : ¬ c ≤ 57 := by omega
  have d5 : ¬ 97 ≤ c := by omega
  clear d s
  go_enter Tryz.func146, Tryz.ntmps146
  go_wp2_with (go_at_call 160; refine (indexByte _ _ _).mono ?_; rintro e w' ⟨rfl, rfl⟩)
  go_ret
  rw [HC.out]
  exact ⟨rfl, rfl⟩
 by_cases x : c ∈ [40, 41, 44, 33, 58, 61, 62, 43, 45, 42, 60, 59]
 ·have x' := hs.2 x
  have hc : cls c = 5 := by unfold cls; rw [if_neg b, if_neg d, if_neg s, if_neg g, if_pos x]
  have HC := Lib.hid hc
  clear hb hs hc b x
  go_enter Tryz.func146, Tryz.ntmps146
  go_wp2_with (go_at_call 160; refine (indexByte _ _ _).mono ?_; rintro e w' ⟨rfl, rfl⟩)
  all_goals first | (exfalso; omega) | skip
  all_goals go_ret
  all_goals rw [HC.out]
  all_goals exact ⟨rfl, rfl⟩
 ·have x' : ¬ 0 ≤ ix [40, 41, 44, 33, 58, 61, 62, 43, 45, 42, 60, 59] c := fun h => x (hs.1 h)
  have hc : cls c = 0 := by unfold cls; rw [if_neg b, if_neg d, if_neg s, if_neg g, if_neg x]
  have HC := Lib.hid hc
  clear hb hs hc b x
  go_enter Tryz.func146, Tryz.ntmps146
  go_wp2_with (go_at_call 160; refine (indexByte _ _ _).mono ?_; rintro e w' ⟨rfl, rfl⟩)
  all_goals first | (exfalso; omega) | skip
  all_goals go_ret
  all_goals rw [HC.out]
  all_goals exact ⟨rfl, rfl⟩
end Chars
end Go.Proofs.YtkfkpjngiffamaaGreatDoor
namespace Go.Proofs.YtkfkpjngiffamaaGreatDoor
open Go.RowKit
namespace Chars

def signs : List Int := [40, 41, 44, 33, 58, 61, 62, 43, 45, 42, 60, 59]
def sgn (k : Nat) : Int := signs.getD k 0
def signCells : Array Value := #[.int .u8 40, .int .u8 41, .int .u8 44, .int .u8 33, .int .u8 58, .int .u8 61, .int .u8 62, .int .u8 43, .int .u8 45, .int .u8 42, .int .u8 60, .int .u8 59]
theorem sign_cell (w : World) (t : Nat) (k : Nat) (hk : k < 12) : (w.alloc (.cells signCells t)).cell? ⟨w.heap.size, k, none⟩ = some (.int .u8 (sgn k)) := by
 unfold signCells sgn signs
 have : k = 0 ∨ k = 1 ∨ k = 2 ∨ k = 3 ∨ k = 4 ∨ k = 5 ∨ k = 6 ∨ k = 7 ∨ k = 8 ∨ k = 9 ∨ k = 10 ∨ k = 11 := by omega
 rcases this with rfl | rfl | rfl | rfl | rfl | rfl | rfl | rfl | rfl | rfl | rfl | rfl <;> simp [go_sem]
theorem sgn_mem (k : Nat) (hk : k < 12) : sgn k ∈ signs := by
 have : k = 0 ∨ k = 1 ∨ k = 2 ∨ k = 3 ∨ k = 4 ∨ k = 5 ∨ k = 6 ∨ k = 7 ∨ k = 8 ∨ k = 9 ∨ k = 10 ∨ k = 11 := by omega
 rcases this with rfl | rfl | rfl | rfl | rfl | rfl | rfl | rfl | rfl | rfl | rfl | rfl <;> decide
theorem mem_sgn (c : Int) (hc : c ∈ signs) : ∃ k, k < 12 ∧ sgn k = c := by
 unfold signs at hc
 simp only [List.mem_cons, List.not_mem_nil, or_false] at hc
 rcases hc with rfl | rfl | rfl | rfl | rfl | rfl | rfl | rfl | rfl | rfl | rfl | rfl
 ·exact ⟨0, by omega, by decide⟩
 ·exact ⟨1, by omega, by decide⟩
 ·exact ⟨2, by omega, by decide⟩
 ·exact ⟨3, by omega, by decide⟩
 ·exact ⟨4, by omega, by decide⟩
 ·exact ⟨5, by omega, by decide⟩
 ·exact ⟨6, by omega, by decide⟩
 ·exact ⟨7, by omega, by decide⟩
 ·exact ⟨8, by omega, by decide⟩
 ·exact ⟨9, by omega, by decide⟩
 ·exact ⟨10, by omega, by decide⟩
 ·exact ⟨11, by omega, by decide⟩
theorem ret_u8 {a b : Int} (h : a = b) : Ending.returned (.int .u8 a) = .returned (.int .u8 b) := by rw [h]

theorem refClass_sign (c : Int) (w : World) (b1 : (c == 32) = false) (b2 : (c == 9) = false) (b3 : (c == 10) = false)
  (hr : c < 48 ∨ (58 ≤ c ∧ c < 65) ∨ (91 ≤ c ∧ c < 97) ∨ 123 ≤ c) (hc : cls c = if c ∈ signs then 5 else 0) :
  Calls Tryz.prog 94 #[.int .u8 c] w fun e w' => e = .returned (.int .u8 (cls c)) ∧ Below w.heap.size w w' := by
 have hcell : ∀ t k, k < 12 → (w.alloc (.cells signCells t)).cell? ⟨w.heap.size, k, none⟩ = some (.int .u8 (sgn k)) := fun t k => sign_cell w t k
 unfold signCells at hcell
 have HC := Lib.hid hc; clear hc
 have HK := Lib.hid hcell; clear hcell
 rcases hr with r1 | ⟨r1, r2⟩ | ⟨r1, r2⟩ | r1
 all_goals
  go_enter Tryz.func94, Tryz.ntmps94
  go_wp2
  try clear r1
  try clear r2
  go_loop [4, 36] (fun _ i => ∃ k : Nat, k ≤ 12 ∧ i = .int .i64 k ∧ ∀ j, j < k → sgn j ≠ c) (fun _ i => 12 - (intOf i).toNat)
  case atStart => exact ⟨0, by omega, rfl, fun j hj => by omega⟩
  case round =>
   obtain ⟨k, hk, rfl, hn⟩ := hrel
   have HN := Lib.hid hn
   clear hn
   by_cases hlt : k < 12
   ·have hk1 := HK.out 5 k hlt
    by_cases he : sgn k = c
    ·have he' : (sgn k == c) = true := by simpa using he
     have HE := Lib.hid he; clear he
     go_wp2
     go_ret
     refine ⟨ret_u8 ?_, (Below.refl _ _).alloc (Nat.le_refl _) _⟩
     rw [HC.out, if_pos (by rw [← HE.out]; exact sgn_mem k hlt)]
    ·have he' : (sgn k == c) = false := by simpa using he
     have HE := Lib.hid he; clear he
     go_wp2
     go_round
     case rel =>
      refine ⟨k + 1, by omega, by go_num, fun j hj => ?_⟩
      by_cases hjk : j = k
      ·rw [hjk]; exact HE.out
      ·exact HN.out j (by omega)
     case measure => simp [intOf]; omega
   ·go_wp2
    go_ret
    refine ⟨ret_u8 ?_, (Below.refl _ _).alloc (Nat.le_refl _) _⟩
    rw [HC.out, if_neg (fun hm => by obtain ⟨j, hj, hs⟩ := mem_sgn c hm; exact HN.out j (by omega) hs)]

theorem refClass_walk (c : Int) (h0 : 0 ≤ c) (h1 : c ≤ 255) (w : World) :
  Calls Tryz.prog 94 #[.int .u8 c] w fun e w' => e = .returned (.int .u8 (cls c)) ∧ Below w.heap.size w w' := by
 by_cases b1 : c = 32
 ·subst b1
  go_enter Tryz.func94, Tryz.ntmps94
  go_wp2
  go_ret
  exact ⟨rfl, Below.refl _ _⟩
 by_cases b2 : c = 9
 ·subst b2
  go_enter Tryz.func94, Tryz.ntmps94
  go_wp2
  go_ret
  exact ⟨rfl, Below.refl _ _⟩
 by_cases b3 : c = 10
 ·subst b3
  go_enter Tryz.func94, Tryz.ntmps94
  go_wp2
  go_ret
  exact ⟨rfl, Below.refl _ _⟩
 have b1' : (c == 32) = false := by simpa using b1
 have b2' : (c == 9) = false := by simpa using b2
 have b3' : (c == 10) = false := by simpa using b3
 have nb : ¬ (c = 32 ∨ c = 9 ∨ c = 10) := by omega
 by_cases d : 48 ≤ c ∧ c ≤ 57
 ·have hc : cls c = 2 := by unfold cls; rw [if_neg nb, if_pos d]
  have HC := Lib.hid hc; clear hc
  obtain ⟨d1, d2⟩ := d
  clear nb b1 b2 b3
  go_enter Tryz.func94, Tryz.ntmps94
  go_wp2
  go_ret
  exact ⟨ret_u8 HC.out.symm, Below.refl _ _⟩
 by_cases s : 97 ≤ c ∧ c ≤ 122
 ·have hc : cls c = 3 := by unfold cls; rw [if_neg nb, if_neg d, if_pos s]
  have HC := Lib.hid hc; clear hc
  obtain ⟨d1, d2⟩ := s
  clear nb b1 b2 b3 d
  go_enter Tryz.func94, Tryz.ntmps94
  go_wp2
  go_ret
  exact ⟨ret_u8 HC.out.symm, Below.refl _ _⟩
 by_cases g : 65 ≤ c ∧ c ≤ 90
 ·have hc : cls c = 4 := by unfold cls; rw [if_neg nb, if_neg d, if_neg s, if_pos g]
  have HC := Lib.hid hc; clear hc
  obtain ⟨d1, d2⟩ := g
  clear nb b1 b2 b3 d s
  go_enter Tryz.func94, Tryz.ntmps94
  go_wp2
  go_ret
  exact ⟨ret_u8 HC.out.symm, Below.refl _ _⟩
 exact refClass_sign c w b1' b2' b3' (by omega) (by unfold cls; rw [if_neg nb, if_neg d, if_neg s, if_neg g]; rfl)
end Chars
end Go.Proofs.YtkfkpjngiffamaaGreatDoor
namespace Go.Proofs.YtkfkpjngiffamaaGreatDoor
namespace Chars

def el (xs : List Int) (i : Nat) : Int := xs.getD i 0
end Chars
end Go.Proofs.YtkfkpjngiffamaaGreatDoor
namespace Go.Proofs.YtkfkpjngiffamaaGreatDoor
open Go.RowKit
namespace Chars

def BytesAt (w : World) (p : Option Addr) (xs : List Int) : Prop :=
 xs = [] ∨ ∃ b o, p = some ⟨b, o, none⟩ ∧ ∀ i, i < xs.length → w.cell? ⟨b, o + i, none⟩ = some (.int .u8 (xs.getD i 0))

theorem BytesAt.get {w : World} {p : Option Addr} {xs : List Int} (h : BytesAt w p xs) (k : Nat) (hk : k < xs.length) :
  ∃ b o, p = some ⟨b, o, none⟩ ∧ ∀ i, i < xs.length → w.cell? ⟨b, o + i, none⟩ = some (.int .u8 (el xs i)) := by
 rcases h with rfl | h
 ·simp at hk
 ·exact h

theorem el_mem {xs : List Int} {i : Nat} (h : i < xs.length) : el xs i ∈ xs := by
 unfold el
 rw [List.getD_eq_getElem?_getD, List.getElem?_eq_getElem h]
 exact List.getElem_mem h
theorem mem_el {xs : List Int} {v : Int} (h : v ∈ xs) : ∃ i, i < xs.length ∧ el xs i = v := by
 obtain ⟨i, hi, e⟩ := List.getElem_of_mem h
 refine ⟨i, hi, ?_⟩
 unfold el
 rw [List.getD_eq_getElem?_getD, List.getElem?_eq_getElem hi]
 exact e

def isin (ys : List Int) (v : Int) : Bool := decide (v ∈ ys)

theorem ret_i64 {a b : Int} (h : a = b) : Ending.returned (.int .i64 a) = .returned (.int .i64 b) := by rw [h]
theorem ret_bool {a b : Bool} (h : a = b) : Ending.returned (.bool a) = .returned (.bool b) := by rw [h]

def IsIdx (ys : List Int) (v : Int) (e : Ending) : Prop := ∃ r : Int, e = .returned (.int .i64 r) ∧ (isin ys v = true → 0 ≤ r) ∧ (isin ys v = false → r < 0)

theorem index_walk (p : Option Addr) (n d : Nat) (ys : List Int) (v : Int) (w : World) (hn : ys.length = n) (hm : n ≤ maxLen) (hb : BytesAt w p ys) :
  Calls Tryz.prog 173 #[.slice p n d, .int .u8 v] w fun e w' => IsIdx ys v e ∧ w = w' := by
 unfold maxLen at hm
 have HB := Lib.hid hb; clear hb
 have HL := Lib.hid hn; clear hn
 go_enter Tryz.func173, Tryz.ntmps173
 go_wp2
 go_loop [5, 8] (fun _ i => ∃ k : Nat, k ≤ n ∧ i = .int .i64 k ∧ ∀ j, j < k → el ys j ≠ v) (fun _ i => n - (intOf i).toNat)
 case atStart => exact ⟨0, by omega, rfl, fun j hj => by omega⟩
 case round =>
  obtain ⟨k, hk, rfl, hn⟩ := hrel
  have HN := Lib.hid hn
  clear hn
  by_cases hlt : k < n
  ·obtain ⟨b, o, rfl, hc⟩ := HB.out.get k (by rw [HL.out]; exact hlt)
   have hck := hc k (by rw [HL.out]; exact hlt)
   clear hc
   by_cases he : el ys k = v
   ·have he' : (v == el ys k) = true := by rw [he]; simp
    have HE := Lib.hid he; clear he
    go_wp2
    go_ret
    refine ⟨⟨k, rfl, fun _ => by omega, fun h => ?_⟩, rfl⟩
    exfalso
    unfold isin at h
    have : v ∈ ys := by rw [← HE.out]; exact el_mem (by rw [HL.out]; exact hlt)
    simp [this] at h
   ·have he' : (v == el ys k) = false := by simpa using fun h => he h.symm
    have HE := Lib.hid he; clear he
    go_wp2
    go_round
    case rel =>
     refine ⟨k + 1, by omega, by go_num, fun j hj => ?_⟩
     by_cases hjk : j = k
     ·rw [hjk]; exact HE.out
     ·exact HN.out j (by omega)
    case measure => simp [intOf]; omega
  ·go_wp2
   go_ret
   refine ⟨⟨-1, rfl, fun h => ?_, fun h => by omega⟩, rfl⟩
   exfalso
   unfold isin at h
   obtain ⟨j, hj, hs⟩ := mem_el (of_decide_eq_true h)
   have hl := HL.out
   exact HN.out j (by omega) hs

theorem contains_walk (p : Option Addr) (n d : Nat) (ys : List Int) (v : Int) (w : World) (hn : ys.length = n) (hm : n ≤ maxLen) (hb : BytesAt w p ys) :
  Calls Tryz.prog 170 #[.slice p n d, .int .u8 v] w fun e w' => e = .returned (.bool (isin ys v)) ∧ w = w' := by
 have HB := Lib.hid hb; clear hb
 have HL := Lib.hid hn; clear hn
 go_enter Tryz.func170, Tryz.ntmps170
 go_wp2_with (fail)
 refine (index_walk p n d ys v w HL.out hm HB.out).mono ?_
 rintro e w' ⟨⟨r, rfl, h1, h2⟩, rfl⟩
 have H1 := Lib.hid h1; have H2 := Lib.hid h2; clear h1 h2
 go_wp2
 go_ret
 refine ⟨ret_bool ?_, rfl⟩
 have h1 := H1.out; have h2 := H2.out
 cases hi : isin ys v
 ·have := h2 hi; simp; omega
 ·have := h1 hi; simp; omega
end Chars
end Go.Proofs.YtkfkpjngiffamaaGreatDoor
namespace Go.Proofs.YtkfkpjngiffamaaGreatDoor
open Go.RowKit
namespace Chars

theorem below_draws {B : Nat} {a w : World} (h : Below B a w) (q : Nat) : Below B a (w.drewN q) := ⟨h.os, h.tape, h.output, h.size, h.block⟩

theorem BytesAt.below {w W : World} {p : Option Addr} {xs : List Int} (h : BytesAt w p xs) (hb : Below w.heap.size w W) : BytesAt W p xs := by
 rcases h with rfl | ⟨b, o, hp, hc⟩
 ·exact .inl rfl
 ·refine .inr ⟨b, o, hp, fun i hi => ?_⟩
  have hl : b < w.heap.size := World.block_lt_of_cell? w _ (hc i hi)
  exact (hb.cell (p := ⟨b, o + i, none⟩) hl).trans (hc i hi)

theorem closure_walk (c : Int) (h0 : 0 ≤ c) (h1 : c ≤ 255) (B : Nat) (q : Option Addr) (m d : Nat) (ys : List Int) (w : World)
  (hbox : w.cell? ⟨B, 0, none⟩ = some (.slice q m d)) (hy : ys.length = m) (hm : m ≤ maxLen) (hq : BytesAt w q ys) :
  Calls Tryz.prog 169 #[.int .u8 c, .pointer (some ⟨B, 0, none⟩)] w fun e w' => e = .returned (.bool (isin ys (cls c))) ∧ ∃ n, w' = w.drewN n := by
 have HY := Lib.hid hy; clear hy
 have hcl := fun W => class_walk c h0 h1 W
 go_enter Tryz.func169, Tryz.ntmps169
 go_wp2
 go_quiet ((first | (go_at_call 146; exact Calls.quiet_of_same ((hcl _).mono fun _ _ h => ⟨h.1, h.2.symm⟩)) | (go_at_call 170; exact Calls.quiet_of_same ((contains_walk _ _ _ ys _ _ HY.out hm (hq.below (below_draws (Below.refl _ _) _))).mono fun _ _ h => ⟨h.1, h.2.symm⟩))))
 go_wp2
 go_ret
 exact ⟨rfl, _, rfl⟩
def run (ys xs : List Int) : Nat := (xs.takeWhile fun c => isin ys (cls c)).length

theorem run_le (ys xs : List Int) : run ys xs ≤ xs.length := (List.takeWhile_sublist _).length_le

theorem run_stop (ys : List Int) : ∀ (xs : List Int) (k : Nat), k < xs.length → (∀ j, j < k → isin ys (cls (el xs j)) = true) → isin ys (cls (el xs k)) = false → run ys xs = k
 | [], k, hk, _, _ => by simp at hk
 | x :: xs, 0, _, _, h => by
  have h' : isin ys (cls x) = false := h
  simp [run, h']
 | x :: xs, k + 1, hk, ha, h => by
  have h' : isin ys (cls x) = true := ha 0 (by omega)
  have ih := run_stop ys xs k (by simpa using hk) (fun j hj => ha (j + 1) (by omega)) h
  unfold run at ih ⊢
  simp [h', ih]

theorem run_all (ys : List Int) : ∀ (xs : List Int), (∀ j, j < xs.length → isin ys (cls (el xs j)) = true) → run ys xs = xs.length
 | [], _ => rfl
 | x :: xs, ha => by
  have h' : isin ys (cls x) = true := ha 0 (by simp)
  have ih := run_all ys xs (fun j hj => ha (j + 1) (by simpa using hj))
  unfold run at ih ⊢
  simp [h', ih]

def Bytes (xs : List Int) : Prop := ∀ x ∈ xs, 0 ≤ x ∧ x ≤ 255
theorem Bytes.el {xs : List Int} (h : Bytes xs) {k : Nat} (hk : k < xs.length) : 0 ≤ Chars.el xs k ∧ Chars.el xs k ≤ 255 := h _ (el_mem hk)

set_option maxHeartbeats 400000 in
theorem lead_walk (p : Option Addr) (n d : Nat) (xs : List Int) (B : Nat) (q : Option Addr) (m d2 : Nat) (ys : List Int) (w : World)
  (hx : xs.length = n) (hn : n ≤ maxLen) (hp : BytesAt w p xs) (hr : Bytes xs)
  (hbox : w.cell? ⟨B, 0, none⟩ = some (.slice q m d2)) (hy : ys.length = m) (hm : m ≤ maxLen) (hq : BytesAt w q ys) :
  Calls Tryz.prog 168 #[.slice p n d, .func (.func 169) #[] #[.pointer (some ⟨B, 0, none⟩)]] w fun e w' => e = .returned (.int .i64 (run ys xs)) ∧ Below w.heap.size w w' := by
 have hclo := fun (W : World) (hb : Below w.heap.size w W) (c : Int) (h0 : 0 ≤ c) (h1 : c ≤ 255) =>
  closure_walk c h0 h1 B q m d2 ys W ((hb.cell (p := ⟨B, 0, none⟩) (World.block_lt_of_cell? w _ hbox)).trans hbox) hy hm (hq.below hb)
 have HCLO := Lib.hid hclo
 have HX := Lib.hid hx
 have HP := Lib.hid hp
 have HR := Lib.hid hr
 clear hclo hx hp hr hbox hy hm hq
 unfold maxLen at hn
 go_enter Tryz.func168, Tryz.ntmps168
 go_wp2
 go_loopw [5, 6, 9] (fun _ _ i wr => ∃ k : Nat, k ≤ n ∧ i = .int .i64 k ∧ (∀ j, j < k → isin ys (cls (el xs j)) = true) ∧ Below w.heap.size w wr) (fun _ _ i _ => n - (intOf i).toNat)
 case atStart => exact ⟨0, by omega, rfl, fun j hj => by omega, Below.refl _ _⟩
 case round =>
  obtain ⟨k, hk, rfl, ha, hb⟩ := hrel
  have HA := Lib.hid ha
  have HB := Lib.hid hb
  clear ha hb
  by_cases hlt : k < n
  ·have hk' : k < xs.length := by rw [HX.out]; exact hlt
   obtain ⟨b, o, rfl, hc⟩ := (HP.out.below HB.out).get k hk'
   have hck := hc k hk'
   clear hc
   have hel := HR.out.el hk'
   have HE0 := Lib.hid hel.1
   have HE1 := Lib.hid hel.2
   clear hel hk'
   go_wp2_with (fail)
   refine (HCLO.out _ HB.out _ HE0.out HE1.out).mono ?_
   rintro e w' ⟨rfl, q', rfl⟩
   cases ht : isin ys (cls (el xs k))
   ·have HT := Lib.hid ht
    clear ht
    go_wp2
    go_ret
    refine ⟨ret_i64 ?_, below_draws HB.out _⟩
    rw [run_stop ys xs k (by rw [HX.out]; exact hlt) HA.out HT.out]
   ·have HT := Lib.hid ht
    clear ht
    go_wp2
    go_roundw
    case rel =>
     refine ⟨k + 1, by omega, by go_num, fun j hj => ?_, below_draws HB.out _⟩
     by_cases hjk : j = k
     ·rw [hjk]; exact HT.out
     ·exact HA.out j (by omega)
    case measure => simp [intOf]; omega
  ·go_wp2
   go_ret
   refine ⟨ret_i64 ?_, HB.out⟩
   have hx := HX.out
   have : k = n := by omega
   rw [run_all ys xs (fun j hj => HA.out j (by omega)), hx]
end Chars
end Go.Proofs.YtkfkpjngiffamaaGreatDoor
namespace Go.Proofs.YtkfkpjngiffamaaGreatDoor
open Go.RowKit
namespace Chars

def spanI (ys xs : List Int) (at' : Int) : Int := if 0 ≤ at' ∧ at' < xs.length then (run ys (xs.drop at'.toNat) : Nat) else 0

theorem el_drop (xs : List Int) (k i : Nat) : el (xs.drop k) i = el xs (k + i) := by
 unfold el
 simp

theorem BytesAt.drop {w : World} {b o : Nat} {xs : List Int} (h : ∀ i, i < xs.length → w.cell? ⟨b, o + i, none⟩ = some (.int .u8 (el xs i))) (k : Nat) :
  BytesAt w (some ⟨b, o + k, none⟩) (xs.drop k) := by
 refine .inr ⟨b, o + k, rfl, fun i hi => ?_⟩
 have h' := h (k + i) (by simp at hi; omega)
 rw [show o + k + i = o + (k + i) from by omega, h']
 show _ = some (Value.int .u8 (el (xs.drop k) i))
 rw [el_drop]

theorem Bytes.drop {xs : List Int} (h : Bytes xs) (k : Nat) : Bytes (xs.drop k) := fun x hx => h x (List.mem_of_mem_drop hx)

set_option maxHeartbeats 400000 in
theorem span_walk (p : Option Addr) (n d : Nat) (xs : List Int) (a : Int) (q : Option Addr) (m d2 : Nat) (ys : List Int) (w : World)
  (hx : xs.length = n) (hnd : n ≤ d) (hd : d ≤ maxLen) (hp : BytesAt w p xs) (hr : Bytes xs) (hy : ys.length = m) (hm : m ≤ maxLen) (hq : BytesAt w q ys) :
  Calls Tryz.prog 161 #[.slice p n d, .int .i64 a, .slice q m d2] w fun e w' => e = .returned (.int .i64 (spanI ys xs a)) ∧ Below w.heap.size w w' := by
 have hmf : ∀ (fn : Fn) (first cap : Array Value) (w : World), (Instr.makeFunc fn first cap).run Tryz.prog w = .ok (.func fn first cap) w := fun _ _ _ _ => rfl
 unfold maxLen at hd hm
 have HX := Lib.hid hx
 have HP := Lib.hid hp
 have HR := Lib.hid hr
 have HY := Lib.hid hy
 have HQ := Lib.hid hq
 clear hx hp hr hy hq
 have hw : Below w.heap.size w (w.alloc (.cells #[.slice q m d2] 63)) := (Below.refl _ _).alloc (Nat.le_refl _) _
 have HW := Lib.hid hw; clear hw
 by_cases h0 : a < 0
 ·have hs : spanI ys xs a = 0 := by unfold spanI; rw [if_neg (by omega)]
  have HS := Lib.hid hs; clear hs
  go_enter Tryz.func161, Tryz.ntmps161
  go_wp2
  go_ret
  exact ⟨ret_i64 HS.out.symm, (Below.refl _ _).alloc (Nat.le_refl _) _⟩
 by_cases h1 : (n : Int) ≤ a
 ·have hs : spanI ys xs a = 0 := by unfold spanI; rw [if_neg (by rw [HX.out]; omega)]
  have HS := Lib.hid hs; clear hs
  go_enter Tryz.func161, Tryz.ntmps161
  go_wp2
  go_ret
  exact ⟨ret_i64 HS.out.symm, (Below.refl _ _).alloc (Nat.le_refl _) _⟩
 ·obtain ⟨k, rfl⟩ := Int.eq_ofNat_of_zero_le (by omega : 0 ≤ a)
  have hk : k < n := by omega
  have hs : spanI ys xs k = (run ys (xs.drop k) : Nat) := by unfold spanI; rw [if_pos (by rw [HX.out]; omega), Int.toNat_natCast]
  have HS := Lib.hid hs; clear hs
  obtain ⟨b, o, rfl, hc⟩ := (HP.out.below HW.out).get k (by rw [HX.out]; exact hk)
  have HC := Lib.hid hc; clear hc
  clear h0 h1
  go_enter Tryz.func161, Tryz.ntmps161
  go_wp2_with (fail)
  refine (lead_walk (some ⟨b, o + k, none⟩) (n - k) (d - k) (xs.drop k) w.heap.size q m d2 ys _ ?_ ?_ ?_ (HR.out.drop k) ?_ HY.out ?_ (HQ.out.below HW.out)).mono ?_
  ·rw [List.length_drop, HX.out]
  ·unfold maxLen; omega
  ·exact BytesAt.drop HC.out k
  ·simp
  ·unfold maxLen; omega
  rintro e w' ⟨rfl, hb⟩
  have HB := Lib.hid hb; clear hb
  go_wp2
  go_ret
  exact ⟨ret_i64 HS.out.symm, HW.out.trans (HB.out.mono HW.out.size)⟩
theorem bytes_new (w : World) (n : Nat) (cs : Array Value) (t : TypeId) (fr : Nat × Nat) (xs : List Int) (hn : n = w.heap.size) (h : cs = (xs.map fun x => Value.int .u8 x).toArray) : BytesAt (w.alloc (.cells cs t fr)) (some ⟨n, 0, none⟩) xs := by
 subst hn h
 refine .inr ⟨w.heap.size, 0, rfl, fun i hi => ?_⟩
 rw [Nat.zero_add, World.cell?_alloc_mark]
 simp [hi]
end Chars
end Go.Proofs.YtkfkpjngiffamaaGreatDoor
namespace Go.Proofs.YtkfkpjngiffamaaGreatDoor
namespace Words
open Chars (cls el isin run Bytes)

def kwTexts : List (List UInt8) :=
 [[108, 101, 116], [108, 101, 116, 114, 101, 99], [105, 110], [102, 110], [105, 102], [116, 104, 101, 110], [101, 108, 115, 101], [114, 97, 105, 115, 101],
 [116, 114, 121], [119, 105, 116, 104], [114, 101, 102], [102, 115, 116], [115, 110, 100], [101, 120, 110]]
def kwT (k : Nat) : ByteArray := ⟨(kwTexts.getD k []).toArray⟩

def kwAt (l : List UInt8) : List (List UInt8) → Nat → Nat
 | [], _ => 0
 | t :: r, k => if t = l then k + 1 else kwAt l r (k + 1)
def kwN (l : List UInt8) : Nat := kwAt l kwTexts 0

theorem kwAt_hit (l : List UInt8) : ∀ (ts : List (List UInt8)) (b k : Nat), k < ts.length → ts.getD k [] = l → (∀ j, j < k → ts.getD j [] ≠ l) → kwAt l ts b = b + k + 1
 | [], _, k, hk, _, _ => by simp at hk
 | t :: r, b, 0, _, h, _ => by
  have h' : t = l := h
  simp [kwAt, h']
 | t :: r, b, k + 1, hk, h, hn => by
  have h' : t ≠ l := hn 0 (by omega)
  have ih := kwAt_hit l r (b + 1) k (by simpa using hk) h (fun j hj => hn (j + 1) (by omega))
  simp only [kwAt, h', if_false, ih]
  omega
theorem kwAt_miss (l : List UInt8) : ∀ (ts : List (List UInt8)) (b : Nat), (∀ j, j < ts.length → ts.getD j [] ≠ l) → kwAt l ts b = 0
 | [], _, _ => rfl
 | t :: r, b, hn => by
  have h' : t ≠ l := hn 0 (by simp)
  have ih := kwAt_miss l r (b + 1) (fun j hj => hn (j + 1) (by simpa using hj))
  simp only [kwAt, h', if_false, ih]
theorem bytes_ext {s t : ByteArray} (h : s.data.toList = t.data.toList) : s = t := by
 cases s; cases t
 simp at h
 simp [h]
theorem str_yes {s t : ByteArray} (h : s = t) : (s.toList == t.toList) = true := by rw [h]; simp
theorem str_no {s t : ByteArray} (h : s ≠ t) : (s.toList == t.toList) = false := by
 rw [Lib.toList_data, Lib.toList_data, beq_eq_false_iff_ne]
 exact fun e => h (bytes_ext e)
theorem kwT_list (k : Nat) : (kwT k).data.toList = kwTexts.getD k [] := by simp [kwT]
theorem kwN_hit (s : ByteArray) (k : Nat) (hk : k < 14) (h : kwT k = s) (hn : ∀ j, j < k → kwT j ≠ s) : kwN s.data.toList = k + 1 := by
 unfold kwN
 rw [kwAt_hit s.data.toList kwTexts 0 k hk (by rw [← kwT_list, h]) (fun j hj e => hn j hj (bytes_ext (by rw [kwT_list, e])))]
 omega
theorem kwN_miss (s : ByteArray) (hn : ∀ j, j < 14 → kwT j ≠ s) : kwN s.data.toList = 0 := by
 unfold kwN
 exact kwAt_miss _ _ _ (fun j hj e => hn j hj (bytes_ext (by rw [kwT_list, e])))

def ints (l : List UInt8) : List Int := l.map fun c => (c.toNat : Int)
theorem ints_length (l : List UInt8) : (ints l).length = l.length := by simp [ints]
theorem ints_bytes (l : List UInt8) : Bytes (ints l) := by
 intro x hx
 simp only [ints, List.mem_map] at hx
 obtain ⟨c, _, rfl⟩ := hx
 have := c.toNat_lt
 omega
theorem el_ints (l : List UInt8) (k : Nat) (hk : k < l.length) : el (ints l) k = ((l[k]).toNat : Int) := by
 unfold el ints
 rw [List.getD_eq_getElem?_getD]
 simp [hk]

def wordB (f : Int) (xs : List Int) : Bool := decide (xs ≠ [] ∧ xs.length ≤ 16 ∧ cls (el xs 0) = f ∧ ∀ x ∈ xs, isin [3, 4, 2] (cls x) = true)
theorem wordB_nil (f : Int) : wordB f [] = false := by simp [wordB]
theorem wordB_long {f : Int} {xs : List Int} (h : ¬ xs.length ≤ 16) : wordB f xs = false := by
 unfold wordB; exact decide_eq_false fun ⟨_, h1, _, _⟩ => h h1
theorem wordB_first {f : Int} {xs : List Int} (h : cls (el xs 0) ≠ f) : wordB f xs = false := by
 unfold wordB; exact decide_eq_false fun ⟨_, _, h1, _⟩ => h h1
theorem wordB_some {f : Int} {xs : List Int} {k : Nat} (hk : k < xs.length) (h : isin [3, 4, 2] (cls (el xs k)) = false) : wordB f xs = false := by
 unfold wordB
 refine decide_eq_false fun ⟨_, _, _, h1⟩ => ?_
 have := h1 _ (Chars.el_mem hk)
 rw [h] at this
 cases this
def allB (ys xs : List Int) : Bool := decide (∀ x ∈ xs, isin ys (cls x) = true)
theorem run_iff (ys : List Int) : ∀ xs : List Int, run ys xs = xs.length ↔ ∀ x ∈ xs, isin ys (cls x) = true
 | [] => by simp [run]
 | x :: xs => by
  have ih := run_iff ys xs
  have hle := Chars.run_le ys xs
  unfold run at ih hle ⊢
  cases hx : isin ys (cls x)
  ·simp [hx]
  ·simp only [List.takeWhile_cons, hx, if_true, List.length_cons, List.mem_cons, forall_eq_or_imp, true_and]
   rw [← ih]
   omega
theorem run_allB (ys xs : List Int) : ((run ys xs : Int) == (xs.length : Int)) = allB ys xs := by
 rw [Bool.eq_iff_iff]
 unfold allB
 rw [decide_eq_true_iff, ← run_iff]
 simp
 omega
theorem wordB_of_allB (f : Int) (xs : List Int) (h0 : xs ≠ []) (h1 : xs.length ≤ 16) (h2 : cls (el xs 0) = f) : wordB f xs = allB [3, 4, 2] xs := by
 unfold wordB allB
 rw [decide_eq_decide]
 exact ⟨fun h => h.2.2.2, fun h => ⟨h0, h1, h2, h⟩⟩

def nameB (s : ByteArray) : Bool := wordB 3 (ints s.data.toList) && decide (kwN s.data.toList = 0)
def exnB (s : ByteArray) : Bool := wordB 4 (ints s.data.toList)

def digB (l : List UInt8) : Bool := decide (∀ c ∈ l, 48 ≤ c.toNat ∧ c.toNat ≤ 57)
theorem digB_all {l : List UInt8} (h : digB l = true) : ∀ c ∈ l, 48 ≤ c.toNat ∧ c.toNat ≤ 57 := of_decide_eq_true h

@[irreducible] def decStep (n : Nat) (c : UInt8) : Nat := 10 * n + (c.toNat - 48)
theorem decStep_eq (n : Nat) (c : UInt8) : decStep n c = 10 * n + (c.toNat - 48) := by unfold decStep; with_reducible rfl
def decFrom (n : Nat) (l : List UInt8) : Nat := l.foldl decStep n
theorem decFrom_nil (n : Nat) : decFrom n [] = n := rfl
theorem decFrom_cons (n : Nat) (c : UInt8) (r : List UInt8) : decFrom n (c :: r) = decFrom (10 * n + (c.toNat - 48)) r := by
 unfold decFrom
 rw [List.foldl_cons, decStep_eq]
def decVal (l : List UInt8) : Nat := decFrom 0 l
theorem decVal_one (c : UInt8) : decVal [c] = c.toNat - 48 := by
 unfold decVal
 rw [decFrom_cons, decFrom_nil]
 omega
theorem decFrom_append (l r : List UInt8) (n : Nat) : decFrom n (l ++ r) = decFrom (decFrom n l) r := by
 unfold decFrom
 rw [List.foldl_append]
theorem decVal_snoc (l : List UInt8) (c : UInt8) : decVal (l ++ [c]) = 10 * decVal l + (c.toNat - 48) := by
 unfold decVal
 rw [decFrom_append, decFrom_cons, decFrom_nil]

theorem head_append (l r : List UInt8) (h : l ≠ []) : (l ++ r).head? = l.head? := by
 cases l with
 | nil => exact absurd rfl h
 | cons c l => rfl
theorem digit_byte (k : Nat) (h : k < 10) : (UInt8.ofNat (48 + k)).toNat = 48 + k := by
 simp; omega
theorem dec_digits (u : Nat) : digB (Lib.decDigits u) = true ∧ decVal (Lib.decDigits u) = u ∧ Lib.decDigits u ≠ [] ∧ ((Lib.decDigits u).head? = some 48 → u = 0) := by
 induction u using Nat.strongRecOn with
 | _ u ih =>
  by_cases h : u < 10
  ·rw [Lib.decDigits_one h]
   have hb := digit_byte u h
   refine ⟨?_, ?_, by simp, ?_⟩
   ·unfold digB
    refine decide_eq_true fun c hc => ?_
    simp only [List.mem_singleton] at hc
    subst hc
    omega
   ·rw [decVal_one]
    omega
   ·intro hh
    simp only [List.head?_cons, Option.some.injEq] at hh
    have := congrArg UInt8.toNat hh
    rw [hb] at this
    have e48 : (48 : UInt8).toNat = 48 := rfl
    omega
  ·obtain ⟨h1, h2, h3, h4⟩ := ih (u / 10) (by omega)
   rw [Lib.decDigits, dif_neg h]
   have hb := digit_byte (u % 10) (by omega)
   refine ⟨?_, ?_, by simp, ?_⟩
   ·unfold digB at h1 ⊢
    have h1' := of_decide_eq_true h1
    refine decide_eq_true fun c hc => ?_
    rw [List.mem_append] at hc
    rcases hc with hc | hc
    ·exact h1' c hc
    ·simp only [List.mem_singleton] at hc
     subst hc
     omega
   ·rw [decVal_snoc, h2]
    omega
   ·intro hh
    rw [head_append _ _ h3] at hh
    have := h4 hh
    omega
end Words
end Go.Proofs.YtkfkpjngiffamaaGreatDoor
