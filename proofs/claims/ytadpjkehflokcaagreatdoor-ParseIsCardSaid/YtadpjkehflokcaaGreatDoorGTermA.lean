/-Terms, and how memory holds them. Terms: what the walks share. The walks of the document's kids of a kind, and of whether a text fits. The walk of whether a node alone may be, by the document. The walk of the document's row of all nodes. May a term be: mathematics. -/
import Derived.Test.YtadpjkehflokcaaGreatDoorRows
import Derived.WalkKit
import Derived.Below
import Derived.Deep.Slices
import Derived.Deep.Fields
import Derived.LoopTactic
import Derived.Outline
import Derived.Lib.Hide
import Derived.IntWalk
import Derived.Test.YtadpjkehflokcaaGreatDoorGWordsA
import Derived.Deep.QuietTactic
import Derived.BigQuiet
import Derived.Deep.Cut
import Derived.Deep.CutRange
import Derived.Deep.RegionHeld3
import Derived.OwnWalk
import Derived.Laws.AppendOwn
namespace Go.Proofs.YtadpjkehflokcaaGreatDoor
open Go.RowKit Go.ChangeShapes Go.WideShapes Go.Deep
set_option linter.unusedVariables false
namespace Term

/-- A node's own fields. -/
structure Hd where
  k : Int
  op : Int
  pl : Int
  n : Int
  name : ByteArray
  arg : ByteArray
  exn : ByteArray
inductive Tm where
  | node : Hd → List Tm → Tm
def Tm.h : Tm → Hd
  | .node h _ => h
def Tm.ks : Tm → List Tm
  | .node _ l => l
mutual
/-- How many nodes. -/
def wt : Tm → Nat
  | .node _ l => wts l + 1
def wts : List Tm → Nat
  | [] => 0
  | t :: ts => wt t + wts ts
end
theorem wt_pos (t : Tm) : 0 < wt t := by cases t; unfold wt; omega
theorem wt_ks (t : Tm) : wt t = wts t.ks + 1 := by cases t; unfold wt; rfl
theorem wts_nil : wts [] = 0 := by unfold wts; rfl
theorem wts_cons (t : Tm) (ts : List Tm) : wts (t :: ts) = wt t + wts ts := by conv => lhs; unfold wts
theorem wts_append : ∀ (ts us : List Tm), wts (ts ++ us) = wts ts + wts us
  | [], us => by rw [wts_nil]; simp
  | t :: ts, us => by rw [List.cons_append, wts_cons, wts_cons, wts_append ts us]; omega
/-- Term i of some. -/
def tget (ts : List Tm) (i : Nat) : Tm := ts.getD i (.node ⟨0, 0, 0, 0, ByteArray.empty, ByteArray.empty, ByteArray.empty⟩ [])
theorem tget_at {ts : List Tm} {i : Nat} (h : i < ts.length) : ts[i]? = some (tget ts i) := by
  unfold tget
  rw [List.getD_eq_getElem?_getD, List.getElem?_eq_getElem h]
  rfl
theorem tget_mem {ts : List Tm} {i : Nat} (h : i < ts.length) : tget ts i ∈ ts := List.mem_of_getElem? (tget_at h)
theorem wts_mem : ∀ {ts : List Tm} {t : Tm}, t ∈ ts → wt t ≤ wts ts
  | t :: ts, u, h => by
    rw [wts_cons]
    rcases List.mem_cons.1 h with rfl | h
    · omega
    · have := wts_mem h; omega
theorem wts_get {ts : List Tm} {i : Nat} (h : i < ts.length) : wt (tget ts i) ≤ wts ts := wts_mem (tget_mem h)

def hcells (h : Hd) : List Value := [.int .u8 h.k, .int .u8 h.op, .int .i64 h.pl, .int .i64 h.n, .string h.name, .string h.arg, .string h.exn]
/-- A term's eight cells. -/
def tcells (h : Hd) (p : Option Addr) (l c : Nat) : List Value := [.int .u8 h.k, .int .u8 h.op, .int .i64 h.pl, .int .i64 h.n, .string h.name, .string h.arg, .string h.exn, .slice p l c]
/-- Its numbers are of their kinds, its texts are no longer than texts are. -/
structure HdOk (h : Hd) : Prop where
  k : 0 ≤ h.k ∧ h.k ≤ 255
  op : 0 ≤ h.op ∧ h.op ≤ 255
  pl : -9223372036854775808 ≤ h.pl ∧ h.pl ≤ 9223372036854775807
  n : -9223372036854775808 ≤ h.n ∧ h.n ≤ 9223372036854775807
  name : h.name.size ≤ maxLen
  arg : h.arg.size ≤ maxLen
  exn : h.exn.size ≤ maxLen

/-- A slice's terms, and theirs, as memory holds them: nothing is asked of an empty one. -/
inductive Kids (w : World) : Option Addr → List Tm → Prop where
  | nokids (p : Option Addr) : Kids w p []
  | atkids (b o : Nat) (ts : List Tm) (q : Nat → Option Addr) (c : Nat → Nat)
      (hh : ∀ i, i < ts.length → HdOk (tget ts i).h)
      (hc : ∀ i, i < ts.length → ∀ j v, (tcells (tget ts i).h (q i) (tget ts i).ks.length (c i))[j]? = some v → w.cell? ⟨b, o + i * 8 + j, none⟩ = some v)
      (hl : ∀ i, i < ts.length → (tget ts i).ks.length ≤ c i ∧ c i ≤ maxLen)
      (hk : ∀ i, i < ts.length → Kids w (q i) (tget ts i).ks) : Kids w (some ⟨b, o, none⟩) ts

/-- A term by value: its fields, and its kids. -/
structure TmIs (w : World) (h : Hd) (p : Option Addr) (l c : Nat) (t : Tm) : Prop where
  head : t.h = h
  len : t.ks.length = l
  ok : HdOk h
  cap : l ≤ c ∧ c ≤ maxLen
  kids : Kids w p t.ks

theorem Kids.get {w : World} {p : Option Addr} {ts : List Tm} (h : Kids w p ts) (i : Nat) (hi : i < ts.length) :
    ∃ b o q c, p = some ⟨b, o, none⟩ ∧ TmIs w (tget ts i).h q (tget ts i).ks.length c (tget ts i) ∧
      w.cell? ⟨b, o + i * 8, none⟩ = some (.int .u8 (tget ts i).h.k) ∧ w.cell? ⟨b, o + i * 8 + 1, none⟩ = some (.int .u8 (tget ts i).h.op) ∧ w.cell? ⟨b, o + i * 8 + 2, none⟩ = some (.int .i64 (tget ts i).h.pl) ∧
      w.cell? ⟨b, o + i * 8 + 3, none⟩ = some (.int .i64 (tget ts i).h.n) ∧ w.cell? ⟨b, o + i * 8 + 4, none⟩ = some (.string (tget ts i).h.name) ∧ w.cell? ⟨b, o + i * 8 + 5, none⟩ = some (.string (tget ts i).h.arg) ∧
      w.cell? ⟨b, o + i * 8 + 6, none⟩ = some (.string (tget ts i).h.exn) ∧ w.cell? ⟨b, o + i * 8 + 7, none⟩ = some (.slice q (tget ts i).ks.length c) := by
  cases h with
  | nokids => simp at hi
  | atkids b o _ q c hh hc hl hk =>
    have hci := hc i hi
    exact ⟨b, o, q i, c i, rfl, ⟨rfl, rfl, hh i hi, hl i hi, hk i hi⟩, hci 0 _ rfl, hci 1 _ rfl, hci 2 _ rfl, hci 3 _ rfl, hci 4 _ rfl, hci 5 _ rfl, hci 6 _ rfl, hci 7 _ rfl⟩
theorem Kids.stay {w W : World} {p : Option Addr} {ts : List Tm} (h : Kids w p ts) (hb : Below w.heap.size w W) : Kids W p ts := by
  induction h with
  | nokids p => exact .nokids p
  | atkids b o ts q c hh hc hl hk ih =>
    refine .atkids b o ts q c hh (fun i hi j v hv => ?_) hl (fun i hi => ih i hi)
    have h0 := hc i hi j v hv
    exact (hb.cell (p := ⟨b, o + i * 8 + j, none⟩) (World.block_lt_of_cell? w _ h0)).trans h0
theorem TmIs.below {w W : World} {h : Hd} {p : Option Addr} {l c : Nat} {t : Tm} (k : TmIs w h p l c t) (hb : Below w.heap.size w W) : TmIs W h p l c t := ⟨k.head, k.len, k.ok, k.cap, k.kids.stay hb⟩

/-! ### How an argument is seen -/
theorem list8 {α : Type} {l : List α} (h : l.length = 8) : ∃ a b c d e f g i, l = [a, b, c, d, e, f, g, i] := by
  match l, h with
  | [a, b, c, d, e, f, g, i], _ => exact ⟨a, b, c, d, e, f, g, i, rfl⟩
theorem list7 {α : Type} {l : List α} (h : l.length = 7) : ∃ a b c d e f g, l = [a, b, c, d, e, f, g] := by
  match l, h with
  | [a, b, c, d, e, f, g], _ => exact ⟨a, b, c, d, e, f, g, rfl⟩
theorem list2 {α : Type} {l : List α} (h : l.length = 2) : ∃ a b, l = [a, b] := by
  match l, h with
  | [a, b], _ => exact ⟨a, b, rfl⟩
theorem hdFields : ∃ f0 f1 f2 f3 f4 f5 f6 : Field, Tryz.prog.underlying 26 = some (.struct #[f0, f1, f2, f3, f4, f5, f6]) ∧ oneCellFields Tryz.prog #[f0, f1, f2, f3, f4, f5, f6] = true ∧
    Tryz.prog.underlying f0.type = some (.int .u8) ∧ Tryz.prog.underlying f1.type = some (.int .u8) ∧ Tryz.prog.underlying f2.type = some (.int .i64) ∧ Tryz.prog.underlying f3.type = some (.int .i64) ∧
    Tryz.prog.underlying f4.type = some .string ∧ Tryz.prog.underlying f5.type = some .string ∧ Tryz.prog.underlying f6.type = some .string :=
  ⟨_, _, _, _, _, _, _, Tryz.underlying26, by kernel_rfl, by kernel_rfl, by kernel_rfl, by kernel_rfl, by kernel_rfl, by kernel_rfl, by kernel_rfl, by kernel_rfl⟩
theorem hdCells : Tryz.prog.cellsOf 26 = 7 := by kernel_rfl
theorem tmCells : Tryz.prog.cellsOf 29 = 8 := by kernel_rfl
theorem tmFields : ∃ f0 f1 : Field, Tryz.prog.underlying 29 = some (.struct #[f0, f1]) ∧ f0.type = 26 ∧ f1.type = 27 ∧ f0.offset = 0 ∧ f1.offset = 7 ∧ Tryz.prog.cellsOf f1.type = 1 :=
  ⟨_, _, Tryz.underlying29, by kernel_rfl, by kernel_rfl, by kernel_rfl, by kernel_rfl, by kernel_rfl⟩

section
variable {H : Type} {enc : TypeId × Value → H} {w : World} {base : Nat} {sp : Nat → Bool} {held : Bool}
theorem wf_u8 {n : Int} (h : (Lit.int .u8 n).wf = true) : 0 ≤ n ∧ n ≤ 255 := by
  simp [Lit.wf, IntKind.min, IntKind.max, IntKind.signed, IntKind.bits] at h
  omega
theorem wf_i64 {n : Int} (h : (Lit.int .i64 n).wf = true) : -9223372036854775808 ≤ n ∧ n ≤ 9223372036854775807 := by
  simp [Lit.wf, IntKind.min, IntKind.max, IntKind.signed, IntKind.bits] at h
  omega
/-- A head's cells, of what reads as one. -/
theorem open_hd {fuel : Nat} {cs : List Value} {y : DataW H × List MemPlace} (h : DataW.trod enc Tryz.prog w base sp held fuel 26 cs = some y) : ∃ hd : Hd, cs = hcells hd ∧ HdOk hd := by
  obtain ⟨f0, f1, f2, f3, f4, f5, f6, hu, hone, u0, u1, u2, u3, u4, u5, u6⟩ := hdFields
  obtain ⟨xs, n, _, _, hlen, hxl, hf⟩ := DataW.trod_struct hu h
  rw [hdCells] at hlen
  obtain ⟨c0, c1, c2, c3, c4, c5, c6, rfl⟩ := list7 hlen
  have hxl' : xs.length = 7 := hxl
  obtain ⟨y0, y1, y2, y3, y4, y5, y6, rfl⟩ := list7 hxl'
  obtain ⟨o0, k0⟩ := hone_of hone 0 f0 rfl
  obtain ⟨o1, k1⟩ := hone_of hone 1 f1 rfl
  obtain ⟨o2, k2⟩ := hone_of hone 2 f2 rfl
  obtain ⟨o3, k3⟩ := hone_of hone 3 f3 rfl
  obtain ⟨o4, k4⟩ := hone_of hone 4 f4 rfl
  obtain ⟨o5, k5⟩ := hone_of hone 5 f5 rfl
  obtain ⟨o6, k6⟩ := hone_of hone 6 f6 rfl
  have h0 := hf 0 f0 rfl
  have h1 := hf 1 f1 rfl
  have h2 := hf 2 f2 rfl
  have h3 := hf 3 f3 rfl
  have h4 := hf 4 f4 rfl
  have h5 := hf 5 f5 rfl
  have h6 := hf 6 f6 rfl
  rw [o0, k0] at h0; rw [o1, k1] at h1; rw [o2, k2] at h2; rw [o3, k3] at h3; rw [o4, k4] at h4; rw [o5, k5] at h5; rw [o6, k6] at h6
  have e0 : DataW.trod enc Tryz.prog w base sp held n f0.type [c0] = some y0 := h0
  have e1 : DataW.trod enc Tryz.prog w base sp held n f1.type [c1] = some y1 := h1
  have e2 : DataW.trod enc Tryz.prog w base sp held n f2.type [c2] = some y2 := h2
  have e3 : DataW.trod enc Tryz.prog w base sp held n f3.type [c3] = some y3 := h3
  have e4 : DataW.trod enc Tryz.prog w base sp held n f4.type [c4] = some y4 := h4
  have e5 : DataW.trod enc Tryz.prog w base sp held n f5.type [c5] = some y5 := h5
  have e6 : DataW.trod enc Tryz.prog w base sp held n f6.type [c6] = some y6 := h6
  obtain ⟨K, r0, _, g0⟩ := DataW.trod_int u0 e0
  obtain ⟨O, r1, _, g1⟩ := DataW.trod_int u1 e1
  obtain ⟨P, r2, _, g2⟩ := DataW.trod_int u2 e2
  obtain ⟨N, r3, _, g3⟩ := DataW.trod_int u3 e3
  obtain ⟨s4, r4, _, g4⟩ := DataW.trod_string u4 e4
  obtain ⟨s5, r5, _, g5⟩ := DataW.trod_string u5 e5
  obtain ⟨s6, r6, _, g6⟩ := DataW.trod_string u6 e6
  injection r0 with r0; injection r1 with r1; injection r2 with r2; injection r3 with r3; injection r4 with r4; injection r5 with r5; injection r6 with r6
  subst r0 r1 r2 r3 r4 r5 r6
  exact ⟨⟨K, O, P, N, s4, s5, s6⟩, rfl, ⟨wf_u8 g0, wf_u8 g1, wf_i64 g2, wf_i64 g3, g4, g5, g6⟩⟩

theorem open_all : ∀ fuel : Nat,
    (∀ (cs : List Value) (y : DataW H × List MemPlace), DataW.trod enc Tryz.prog w base sp held fuel 29 cs = some y → ∃ h p l c t, cs = tcells h p l c ∧ TmIs w h p l c t) ∧
    (∀ (cs : List Value) (y : DataW H × List MemPlace), DataW.trod enc Tryz.prog w base sp held fuel 27 cs = some y → ∃ p l c ts, cs = [.slice p l c] ∧ ts.length = l ∧ l ≤ c ∧ c ≤ maxLen ∧ Kids w p ts) := by
  intro fuel
  induction fuel using Nat.strongRecOn with
  | _ fuel ih =>
    constructor
    · intro cs y h
      obtain ⟨f0, f1, hu, t0, t1, o0, o1, k1⟩ := tmFields
      obtain ⟨xs, n, hfuel, _, hlen, hxl, hf⟩ := DataW.trod_struct hu h
      rw [tmCells] at hlen
      obtain ⟨c0, c1, c2, c3, c4, c5, c6, c7, rfl⟩ := list8 hlen
      have hxl' : xs.length = 2 := hxl
      obtain ⟨y0, y1, rfl⟩ := list2 hxl'
      have h0 := hf 0 f0 rfl
      have h1 := hf 1 f1 rfl
      rw [t0, hdCells, o0] at h0
      rw [k1, t1, o1] at h1
      have e0 : DataW.trod enc Tryz.prog w base sp held n 26 [c0, c1, c2, c3, c4, c5, c6] = some y0 := h0
      have e1 : DataW.trod enc Tryz.prog w base sp held n 27 [c7] = some y1 := h1
      obtain ⟨hd, hcs, hok⟩ := open_hd e0
      obtain ⟨p, l, c, ts, hcs1, hl, hlc, hcm, hk⟩ := (ih n (by omega)).2 _ _ e1
      injection hcs1 with hcs1
      subst hcs1
      refine ⟨hd, p, l, c, .node hd ts, ?_, ⟨rfl, hl, hok, ⟨hlc, hcm⟩, hk⟩⟩
      unfold hcells at hcs
      unfold tcells
      simp only [List.cons.injEq, and_true] at hcs ⊢
      exact hcs
    · intro cs y h
      rcases DataW.trod_slice Tryz.underlying27 h with ⟨rfl, _⟩ | ⟨a, len, cap, elems, rest, n, hfuel, rfl, _, hb, hl, hm, hlen, hel, _, _⟩
      · exact ⟨none, 0, 0, [], rfl, rfl, Nat.le_refl _, by unfold maxLen; omega, Kids.nokids _⟩
      · have each : ∀ i, i < len → ∃ h q l c t, TmIs w h q l c t ∧ ∀ j v, (tcells h q l c)[j]? = some v → w.cell? ((a.add (i * 8)).add j) = some v := by
          intro i hi
          have he := hel i hi
          rw [tmCells, List.getElem?_eq_getElem (by omega)] at he
          obtain ⟨cs', hc, ht⟩ := Option.bind_eq_some_iff.1 he
          obtain ⟨h, q, l, c, t, rfl, hT⟩ := (ih n (by omega)).1 _ _ ht
          obtain ⟨_, _, hcell⟩ := World.cells?_some hc
          refine ⟨h, q, l, c, t, hT, fun j v hv => ?_⟩
          have hj : j < 8 := by
            rcases Nat.lt_or_ge j 8 with h | h
            · exact h
            · rw [List.getElem?_eq_none (by simpa [tcells] using h)] at hv; cases hv
          rw [hcell j hj, hv]
        have each' : ∀ i, ∃ r : Option Addr × Nat × Tm, i < len → TmIs w r.2.2.h r.1 r.2.2.ks.length r.2.1 r.2.2 ∧ ∀ j v, (tcells r.2.2.h r.1 r.2.2.ks.length r.2.1)[j]? = some v → w.cell? ((a.add (i * 8)).add j) = some v := by
          intro i
          by_cases hi : i < len
          · obtain ⟨h, q, l, c, t, hT, hc⟩ := each i hi
            have e1 := hT.head
            have e2 := hT.len
            subst e1 e2
            exact ⟨(q, c, t), fun _ => ⟨hT, hc⟩⟩
          · exact ⟨(none, 0, .node ⟨0, 0, 0, 0, ByteArray.empty, ByteArray.empty, ByteArray.empty⟩ []), fun h => absurd h hi⟩
        obtain ⟨R, hR⟩ := Classical.axiomOfChoice each'
        obtain ⟨F, hFd⟩ : ∃ F : Nat → Tm, F = fun i => (R i).2.2 := ⟨_, rfl⟩
        obtain ⟨Q, hQd⟩ : ∃ Q : Nat → Option Addr, Q = fun i => (R i).1 := ⟨_, rfl⟩
        obtain ⟨C, hCd⟩ : ∃ C : Nat → Nat, C = fun i => (R i).2.1 := ⟨_, rfl⟩
        have hF : ∀ i, i < len → TmIs w (F i).h (Q i) (F i).ks.length (C i) (F i) ∧ ∀ j v, (tcells (F i).h (Q i) (F i).ks.length (C i))[j]? = some v → w.cell? ((a.add (i * 8)).add j) = some v := by
          subst hFd hQd hCd
          exact hR
        have hlen' : ((List.range len).map F).length = len := by simp
        have hget : ∀ i, i < len → tget ((List.range len).map F) i = F i := by
          intro i hi
          unfold tget
          rw [List.getD_eq_getElem?_getD, List.getElem?_map, List.getElem?_range hi]
          rfl
        refine ⟨some a, len, cap, (List.range len).map F, rfl, hlen', hl, hm, ?_⟩
        by_cases h0 : len = 0
        · subst h0; exact .nokids _
        · obtain ⟨b, o, s⟩ := a
          have h1 := (hF 0 (by omega)).2 0 _ rfl
          have hs : s = none := by
            have := World.cell?_spot h1
            simpa [Addr.add] using this
          subst hs
          refine .atkids b o _ Q C (fun i hi => ?_) (fun i hi j v hv => ?_) (fun i hi => ?_) (fun i hi => ?_)
          · rw [hlen'] at hi; rw [hget i hi]; exact (hF i hi).1.ok
          · rw [hlen'] at hi; rw [hget i hi] at hv
            have := (hF i hi).2 j v hv
            rw [Addr.add_lit, Addr.add_lit] at this
            exact this
          · rw [hlen'] at hi; rw [hget i hi]; exact (hF i hi).1.cap
          · rw [hlen'] at hi; rw [hget i hi]; exact (hF i hi).1.kids
end
end Term
end Go.Proofs.YtadpjkehflokcaaGreatDoor
namespace Go.Proofs.YtadpjkehflokcaaGreatDoor
open Go.RowKit
set_option linter.unusedVariables false
namespace Term

theorem ret_i64 {a b : Int} (h : a = b) : Ending.returned (.int .i64 a) = .returned (.int .i64 b) := by rw [h]
theorem ret_bool {a b : Bool} (h : a = b) : Ending.returned (.bool a) = .returned (.bool b) := by rw [h]
theorem drop_tget (ts : List Tm) (k : Nat) (h : k < ts.length) : ts.drop k = tget ts k :: ts.drop (k + 1) := by
  rw [List.drop_eq_getElem_cons h]
  have := tget_at h
  rw [List.getElem?_eq_getElem h] at this
  rw [Option.some.inj this]
/-- A block just laid reads as it was laid, whatever came behind it. -/
theorem boxAt {w W : World} {cs : Array Value} {t : TypeId} (hb : Below (w.alloc (.cells cs t)).heap.size (w.alloc (.cells cs t)) W) (j : Nat) {v : Value} (hv : cs[j]? = some v) : W.cell? ⟨w.heap.size, j, none⟩ = some v := by
  have hlt : w.heap.size < (w.alloc (.cells cs t)).heap.size := by simp
  rw [hb.cell (p := ⟨w.heap.size, j, none⟩) hlt, World.cell?_alloc_mark, hv]

mutual
/-- How many nodes stand one in the other. -/
def depT : Tm → Nat
  | .node _ l => depK l + 1
def depK : List Tm → Nat
  | [] => 0
  | t :: ts => max (depT t) (depK ts)
end
theorem depT_eq (t : Tm) : depT t = depK t.ks + 1 := by cases t; unfold depT; rfl
theorem depK_nil : depK [] = 0 := by unfold depK; rfl
theorem depK_cons (t : Tm) (ts : List Tm) : depK (t :: ts) = max (depT t) (depK ts) := by conv => lhs; unfold depK
theorem depK_append : ∀ ts us : List Tm, depK (ts ++ us) = max (depK ts) (depK us)
  | [], us => by rw [depK_nil]; simp
  | t :: ts, us => by rw [List.cons_append, depK_cons, depK_cons, depK_append ts us]; omega
theorem dep_le : ∀ m : Nat, (∀ t, wt t ≤ m → depT t ≤ wt t) ∧ (∀ ts, wts ts ≤ m → depK ts ≤ wts ts) := by
  intro m
  induction m with
  | zero =>
    refine ⟨fun t h => by have := wt_pos t; omega, fun ts h => ?_⟩
    cases ts with
    | nil => rw [depK_nil]; omega
    | cons t ts => rw [wts_cons] at h; have := wt_pos t; omega
  | succ m ih =>
    have hT : ∀ t, wt t ≤ m + 1 → depT t ≤ wt t := by
      intro t h
      have hk := wt_ks t
      have := ih.2 t.ks (by omega)
      rw [depT_eq]
      omega
    refine ⟨hT, fun ts => ?_⟩
    induction ts with
    | nil => intro _; rw [depK_nil]; omega
    | cons t ts ihs =>
      intro h
      rw [wts_cons] at h
      have h1 := hT t (by omega)
      have h2 := ihs (by omega)
      rw [depK_cons, wts_cons]
      omega
theorem take_tget (ts : List Tm) (k : Nat) (h : k < ts.length) : ts.take (k + 1) = ts.take k ++ [tget ts k] := by
  rw [List.take_add_one, tget_at h]; rfl
theorem depK_take (ts : List Tm) (k : Nat) (h : k < ts.length) : depK (ts.take (k + 1)) = max (depK (ts.take k)) (depT (tget ts k)) := by
  rw [take_tget ts k h, depK_append, depK_cons, depK_nil]; omega
theorem wts_take_le : ∀ (ts : List Tm) (k : Nat), wts (ts.take k) ≤ wts ts
  | [], k => by simp
  | t :: ts, 0 => by rw [List.take_zero, wts_nil]; omega
  | t :: ts, k + 1 => by rw [List.take_succ_cons, wts_cons, wts_cons]; have := wts_take_le ts k; omega
end Term
end Go.Proofs.YtadpjkehflokcaaGreatDoor
namespace Go.Proofs.YtadpjkehflokcaaGreatDoor
open Go.RowKit
set_option linter.unusedVariables false
namespace Term
open Words (nameB exnB)

/-- How many kids a kind has; -1. -/
def kidsN (k : Int) : Int :=
  if k = 1 ∨ k = 2 then 0 else if k = 4 ∨ k = 5 ∨ k = 6 ∨ k = 7 ∨ k = 11 ∨ k = 15 then 1 else if k = 3 ∨ k = 8 ∨ k = 9 ∨ k = 10 ∨ k = 12 ∨ k = 13 ∨ k = 16 then 2 else if k = 14 then 3 else -1
theorem kidsN_none {k : Int} (h : k < 1 ∨ 16 < k) : kidsN k = -1 := by unfold kidsN; repeat' split; all_goals omega

set_option maxHeartbeats 1600000 in
theorem refKids_walk (k : Int) (h0 : 0 ≤ k) (h1 : k ≤ 255) (w : World) :
    Calls Tryz.prog 101 #[.int .u8 k] w fun e w' => e = .returned (.int .i64 (kidsN k)) ∧ w = w' := by
  by_cases hk : 1 ≤ k ∧ k ≤ 16
  · have hh : k = 1 ∨ k = 2 ∨ k = 3 ∨ k = 4 ∨ k = 5 ∨ k = 6 ∨ k = 7 ∨ k = 8 ∨ k = 9 ∨ k = 10 ∨ k = 11 ∨ k = 12 ∨ k = 13 ∨ k = 14 ∨ k = 15 ∨ k = 16 := by omega
    clear hk
    rcases hh with rfl | rfl | rfl | rfl | rfl | rfl | rfl | rfl | rfl | rfl | rfl | rfl | rfl | rfl | rfl | rfl
    all_goals
      go_enter Tryz.func101, Tryz.ntmps101
      go_wp2
      go_ret
      exact ⟨ret_i64 (by decide), rfl⟩
  · have hr := kidsN_none (k := k) (by omega)
    have hne : ∀ v : Int, 1 ≤ v → v ≤ 16 → (k == v) = false := fun v h2 h3 => by rw [beq_eq_false_iff_ne]; omega
    have e1 := hne 1 (by omega) (by omega); have e2 := hne 2 (by omega) (by omega); have e3 := hne 3 (by omega) (by omega); have e4 := hne 4 (by omega) (by omega)
    have e5 := hne 5 (by omega) (by omega); have e6 := hne 6 (by omega) (by omega); have e7 := hne 7 (by omega) (by omega); have e8 := hne 8 (by omega) (by omega)
    have e9 := hne 9 (by omega) (by omega); have e10 := hne 10 (by omega) (by omega); have e11 := hne 11 (by omega) (by omega); have e12 := hne 12 (by omega) (by omega)
    have e13 := hne 13 (by omega) (by omega); have e14 := hne 14 (by omega) (by omega); have e15 := hne 15 (by omega) (by omega); have e16 := hne 16 (by omega) (by omega)
    have HR := Lib.hid hr
    clear hr hne hk
    go_enter Tryz.func101, Tryz.ntmps101
    go_wp2
    go_ret
    exact ⟨ret_i64 HR.out.symm, rfl⟩

/-- Is a text there just where it should be? -/
def fitsB (there : Bool) (s : ByteArray) (ok : Bool) : Bool := if there = true then ok else decide (s.size = 0)
theorem fits_walk (there : Bool) (s : ByteArray) (ok : Bool) (w : World) :
    Calls Tryz.prog 102 #[.bool there, .string s, .bool ok] w fun e w' => e = .returned (.bool (fitsB there s ok)) ∧ w = w' := by
  cases there
  · by_cases h0 : s.size = 0
    · have hn : s.toList = [] := by rw [Lib.toList_data]; exact List.length_eq_zero_iff.1 h0
      have hr : fitsB false s ok = true := by unfold fitsB; simp [h0]
      have HR := Lib.hid hr
      clear hr h0
      go_enter Tryz.func102, Tryz.ntmps102
      go_wp2
      go_ret
      exact ⟨ret_bool HR.out.symm, rfl⟩
    · have hne : s.toList ≠ [] := by rw [Lib.toList_data]; exact fun e => h0 (by have := congrArg List.length e; simpa using this)
      have hne' : (!s.toList.isEmpty) = true := by simpa using hne
      have hne2 : s.toList.isEmpty = false := by simpa using hne
      have hr : fitsB false s ok = false := by unfold fitsB; simp [h0]
      have HR := Lib.hid hr
      clear hr h0
      go_enter Tryz.func102, Tryz.ntmps102
      go_wp2
      go_ret
      exact ⟨ret_bool HR.out.symm, rfl⟩
  · cases ok
    all_goals
      go_enter Tryz.func102, Tryz.ntmps102
      go_wp2
      go_ret
      exact ⟨ret_bool (by unfold fitsB; rfl), rfl⟩
end Term
end Go.Proofs.YtadpjkehflokcaaGreatDoor
namespace Go.Proofs.YtadpjkehflokcaaGreatDoor
open Go.RowKit
set_option linter.unusedVariables false
namespace Term
open Words (nameB exnB)

def opOk (h : Hd) : Prop := if h.k = 9 then 1 ≤ h.op ∧ h.op ≤ 5 else h.op = 0
def nOk (h : Hd) : Prop := 0 ≤ h.n ∧ h.n ≤ 2147483647 ∧ (h.k ≠ 1 → h.n = 0)
instance (h : Hd) : Decidable (opOk h) := by unfold opOk; infer_instance
instance (h : Hd) : Decidable (nOk h) := by unfold nOk; infer_instance
def nameF (k : Int) : Bool := decide (k = 2 ∨ k = 12 ∨ k = 13)
def argF (k : Int) : Bool := decide (k = 11 ∨ k = 13 ∨ k = 16)
def exnF (k : Int) : Bool := decide (k = 15 ∨ k = 16)
/-- May a node alone be, of so many kids? -/
def nodeB (h : Hd) (l : Nat) : Bool := decide (kidsN h.k = l ∧ 0 ≤ h.pl ∧ opOk h ∧ nOk h) && (fitsB (nameF h.k) h.name (nameB h.name) && fitsB (argF h.k) h.arg (nameB h.arg) && fitsB (exnF h.k) h.exn (exnB h.exn))
theorem nodeB_no {h : Hd} {l : Nat} (hn : ¬ (kidsN h.k = l ∧ 0 ≤ h.pl ∧ opOk h ∧ nOk h)) : nodeB h l = false := by unfold nodeB; rw [decide_eq_false hn]; rfl
theorem nodeB_yes {h : Hd} {l : Nat} (hn : kidsN h.k = l ∧ 0 ≤ h.pl ∧ opOk h ∧ nOk h) : nodeB h l = (fitsB (nameF h.k) h.name (nameB h.name) && fitsB (argF h.k) h.arg (nameB h.arg) && fitsB (exnF h.k) h.exn (exnB h.exn)) := by unfold nodeB; rw [decide_eq_true hn]; rfl

set_option maxRecDepth 100000 in
set_option maxHeartbeats 3200000 in
/-- Kids or a place that may not be. -/
theorem node_kids (k op pl nn : Int) (nm ar ex : ByteArray) (p : Option Addr) (l c : Nat) (w : World) (hk : 0 ≤ k ∧ k ≤ 255) (hl : l ≤ 9223372036854775807) (hb : ¬ (kidsN k = l ∧ 0 ≤ pl)) :
    Calls Tryz.prog 73 #[.agg #[.int .u8 k, .int .u8 op, .int .i64 pl, .int .i64 nn, .string nm, .string ar, .string ex, .slice p l c]] w fun e w' => e = .returned (.bool false) ∧ Below w.heap.size w w' := by
  have hbox : ∀ O : Obj, ∀ q, Below w.heap.size w ((w.alloc O).drewN q) := fun O q => ⟨rfl, rfl, rfl, by simp [World.drewN], fun i hi => Below.heap_alloc _ _ _ hi⟩
  have HBOX := Lib.hid hbox
  have hkc := fun W => refKids_walk k hk.1 hk.2 W
  have HKC := Lib.hid hkc
  obtain ⟨K, hK⟩ : ∃ K, K = kidsN k := ⟨_, rfl⟩
  rw [← hK] at hb hkc
  have HKC := Lib.hid hkc
  clear hbox hkc hK
  by_cases h1 : K < 0
  · clear hb
    go_enter Tryz.func73, Tryz.ntmps73
    go_wp2_with (fail)
    go_quiet ((go_at_call 101; exact Calls.quiet_of_same ((HKC.out _).mono fun _ _ h => ⟨h.1, h.2.symm⟩)))
    go_wp2_with (fail)
    go_ret
    exact ⟨rfl, HBOX.out _ _⟩
  by_cases h2 : K = (l : Int)
  · have h3 : pl < 0 := by omega
    have n1 : ((l : Int) != K) = false := by rw [h2]; simp
    have hd : decide (K < 0) = false := by simpa using h1
    have H2 := Lib.hid h2
    clear hb h2
    go_enter Tryz.func73, Tryz.ntmps73
    go_wp2_with (fail)
    go_quiet ((go_at_call 101; exact Calls.quiet_of_same ((HKC.out _).mono fun _ _ h => ⟨h.1, h.2.symm⟩)))
    go_wp2_with (fail)
    go_ret
    exact ⟨rfl, HBOX.out _ _⟩
  · have n1 : ((l : Int) != K) = true := by rw [bne_iff_ne]; exact fun e => h2 e.symm
    have hd : decide (K < 0) = false := by simpa using h1
    clear hb
    go_enter Tryz.func73, Tryz.ntmps73
    go_wp2_with (fail)
    go_quiet ((go_at_call 101; exact Calls.quiet_of_same ((HKC.out _).mono fun _ _ h => ⟨h.1, h.2.symm⟩)))
    go_wp2_with (fail)
    go_ret
    exact ⟨rfl, HBOX.out _ _⟩

set_option maxRecDepth 100000 in
set_option maxHeartbeats 3200000 in
/-- An operation that may not be. -/
theorem node_ops (k op pl nn : Int) (nm ar ex : ByteArray) (p : Option Addr) (l c : Nat) (w : World) (hk : 0 ≤ k ∧ k ≤ 255) (hop : 0 ≤ op ∧ op ≤ 255) (hl : l ≤ 9223372036854775807) (hb : kidsN k = l) (hpl : 0 ≤ pl) (ho : ¬ opOk ⟨k, op, pl, nn, nm, ar, ex⟩) :
    Calls Tryz.prog 73 #[.agg #[.int .u8 k, .int .u8 op, .int .i64 pl, .int .i64 nn, .string nm, .string ar, .string ex, .slice p l c]] w fun e w' => e = .returned (.bool false) ∧ Below w.heap.size w w' := by
  have hbox : ∀ O : Obj, ∀ q, Below w.heap.size w ((w.alloc O).drewN q) := fun O q => ⟨rfl, rfl, rfl, by simp [World.drewN], fun i hi => Below.heap_alloc _ _ _ hi⟩
  have HBOX := Lib.hid hbox
  have hkc := fun W => refKids_walk k hk.1 hk.2 W
  rw [hb] at hkc
  have HKC := Lib.hid hkc
  have n1 : ((l : Int) != (l : Int)) = false := by simp
  have hd : decide ((l : Int) < 0) = false := by simp
  clear hbox hkc hb
  unfold opOk at ho
  simp only at ho
  by_cases h9 : k = 9
  · rw [if_pos h9] at ho
    have t1 : (k == 9) = true := by simpa using h9
    have t2 : (k != 9) = false := by simpa using h9
    have H9 := Lib.hid h9
    clear h9
    by_cases h1 : op < 1
    · clear ho
      go_enter Tryz.func73, Tryz.ntmps73
      go_wp2_with (fail)
      go_quiet ((go_at_call 101; exact Calls.quiet_of_same ((HKC.out _).mono fun _ _ h => ⟨h.1, h.2.symm⟩)))
      go_wp2_with (fail)
      go_ret
      exact ⟨rfl, HBOX.out _ _⟩
    · have h5 : 5 < op := by omega
      clear ho
      go_enter Tryz.func73, Tryz.ntmps73
      go_wp2_with (fail)
      go_quiet ((go_at_call 101; exact Calls.quiet_of_same ((HKC.out _).mono fun _ _ h => ⟨h.1, h.2.symm⟩)))
      go_wp2_with (fail)
      go_ret
      exact ⟨rfl, HBOX.out _ _⟩
  · rw [if_neg h9] at ho
    have t1 : (k == 9) = false := by simpa using h9
    have t2 : (k != 9) = true := by simpa using h9
    have t3 : (op != 0) = true := by simpa using ho
    have H9 := Lib.hid h9
    clear h9 ho
    go_enter Tryz.func73, Tryz.ntmps73
    go_wp2_with (fail)
    go_quiet ((go_at_call 101; exact Calls.quiet_of_same ((HKC.out _).mono fun _ _ h => ⟨h.1, h.2.symm⟩)))
    go_wp2_with (fail)
    go_ret
    exact ⟨rfl, HBOX.out _ _⟩

set_option maxRecDepth 100000 in
set_option maxHeartbeats 6400000 in
/-- A number that may not be. -/
theorem node_ns (k op pl nn : Int) (nm ar ex : ByteArray) (p : Option Addr) (l c : Nat) (w : World) (hk : 0 ≤ k ∧ k ≤ 255) (hop : 0 ≤ op ∧ op ≤ 255) (hl : l ≤ 9223372036854775807) (hb : kidsN k = l) (hpl : 0 ≤ pl) (ho : opOk ⟨k, op, pl, nn, nm, ar, ex⟩) (hn : ¬ nOk ⟨k, op, pl, nn, nm, ar, ex⟩) :
    Calls Tryz.prog 73 #[.agg #[.int .u8 k, .int .u8 op, .int .i64 pl, .int .i64 nn, .string nm, .string ar, .string ex, .slice p l c]] w fun e w' => e = .returned (.bool false) ∧ Below w.heap.size w w' := by
  have hbox : ∀ O : Obj, ∀ q, Below w.heap.size w ((w.alloc O).drewN q) := fun O q => ⟨rfl, rfl, rfl, by simp [World.drewN], fun i hi => Below.heap_alloc _ _ _ hi⟩
  have HBOX := Lib.hid hbox
  have hkc := fun W => refKids_walk k hk.1 hk.2 W
  rw [hb] at hkc
  have HKC := Lib.hid hkc
  have n1 : ((l : Int) != (l : Int)) = false := by simp
  have hd : decide ((l : Int) < 0) = false := by simp
  clear hbox hkc hb
  unfold opOk at ho
  unfold nOk at hn
  simp only at ho hn
  have hways : nn < 0 ∨ 2147483647 < nn ∨ (¬ nn < 0 ∧ ¬ 2147483647 < nn ∧ k ≠ 1 ∧ nn ≠ 0) := by
    by_cases a : nn < 0
    · exact .inl a
    by_cases b : 2147483647 < nn
    · exact .inr (.inl b)
    refine .inr (.inr ⟨a, b, fun e => hn ⟨by omega, by omega, fun h => absurd e h⟩, fun e => hn ⟨by omega, by omega, fun _ => e⟩⟩)
  clear hn
  by_cases h9 : k = 9
  · rw [if_pos h9] at ho
    obtain ⟨o1, o5⟩ := ho
    have t1 : (k == 9) = true := by simpa using h9
    have t2 : (k != 9) = false := by simpa using h9
    have H9 := Lib.hid h9
    clear h9
    rcases hways with h | h | ⟨a, b, h1, h0⟩
    · go_enter Tryz.func73, Tryz.ntmps73
      go_wp2_with (fail)
      go_quiet ((go_at_call 101; exact Calls.quiet_of_same ((HKC.out _).mono fun _ _ h => ⟨h.1, h.2.symm⟩)))
      go_wp2_with (fail)
      go_ret
      exact ⟨rfl, HBOX.out _ _⟩
    · go_enter Tryz.func73, Tryz.ntmps73
      go_wp2_with (fail)
      go_quiet ((go_at_call 101; exact Calls.quiet_of_same ((HKC.out _).mono fun _ _ h => ⟨h.1, h.2.symm⟩)))
      go_wp2_with (fail)
      go_ret
      exact ⟨rfl, HBOX.out _ _⟩
    · have u1 : (k != 1) = true := by simpa using h1
      have u0 : (nn != 0) = true := by simpa using h0
      clear h1 h0
      go_enter Tryz.func73, Tryz.ntmps73
      go_wp2_with (fail)
      go_quiet ((go_at_call 101; exact Calls.quiet_of_same ((HKC.out _).mono fun _ _ h => ⟨h.1, h.2.symm⟩)))
      go_wp2_with (fail)
      go_ret
      exact ⟨rfl, HBOX.out _ _⟩
  · rw [if_neg h9] at ho
    subst ho
    have t1 : (k == 9) = false := by simpa using h9
    have t2 : (k != 9) = true := by simpa using h9
    have H9 := Lib.hid h9
    clear h9 hop
    rcases hways with h | h | ⟨a, b, h1, h0⟩
    · go_enter Tryz.func73, Tryz.ntmps73
      go_wp2_with (fail)
      go_quiet ((go_at_call 101; exact Calls.quiet_of_same ((HKC.out _).mono fun _ _ h => ⟨h.1, h.2.symm⟩)))
      go_wp2_with (fail)
      go_ret
      exact ⟨rfl, HBOX.out _ _⟩
    · go_enter Tryz.func73, Tryz.ntmps73
      go_wp2_with (fail)
      go_quiet ((go_at_call 101; exact Calls.quiet_of_same ((HKC.out _).mono fun _ _ h => ⟨h.1, h.2.symm⟩)))
      go_wp2_with (fail)
      go_ret
      exact ⟨rfl, HBOX.out _ _⟩
    · have u1 : (k != 1) = true := by simpa using h1
      have u0 : (nn != 0) = true := by simpa using h0
      clear h1 h0
      go_enter Tryz.func73, Tryz.ntmps73
      go_wp2_with (fail)
      go_quiet ((go_at_call 101; exact Calls.quiet_of_same ((HKC.out _).mono fun _ _ h => ⟨h.1, h.2.symm⟩)))
      go_wp2_with (fail)
      go_ret
      exact ⟨rfl, HBOX.out _ _⟩
end Term
end Go.Proofs.YtadpjkehflokcaaGreatDoor
namespace Go.Proofs.YtadpjkehflokcaaGreatDoor
open Go.RowKit
set_option linter.unusedVariables false
namespace Term

mutual
/-- All nodes, each ahead of its kids'. -/
def flatT : Tm → List Tm
  | .node h l => .node h l :: flatK l
def flatK : List Tm → List Tm
  | [] => []
  | t :: ts => flatT t ++ flatK ts
end
theorem flatT_eq (t : Tm) : flatT t = t :: flatK t.ks := by cases t; unfold flatT; rfl
theorem flatK_nil : flatK [] = [] := by unfold flatK; rfl
theorem flatK_cons (t : Tm) (ts : List Tm) : flatK (t :: ts) = flatT t ++ flatK ts := by conv => lhs; unfold flatK
theorem flatK_append : ∀ ts us : List Tm, flatK (ts ++ us) = flatK ts ++ flatK us
  | [], us => by rw [flatK_nil]; rfl
  | t :: ts, us => by rw [List.cons_append, flatK_cons, flatK_cons, flatK_append ts us, List.append_assoc]
theorem flat_len : ∀ m : Nat, (∀ t, wt t ≤ m → (flatT t).length = wt t) ∧ (∀ ts, wts ts ≤ m → (flatK ts).length = wts ts) := by
  intro m
  induction m with
  | zero =>
    refine ⟨fun t h => by have := wt_pos t; omega, fun ts h => ?_⟩
    cases ts with
    | nil => rw [flatK_nil, wts_nil]; rfl
    | cons t ts => rw [wts_cons] at h; have := wt_pos t; omega
  | succ m ih =>
    have hT : ∀ t, wt t ≤ m + 1 → (flatT t).length = wt t := by
      intro t h
      have hk := wt_ks t
      have := ih.2 t.ks (by omega)
      rw [flatT_eq, List.length_cons, this]
      omega
    refine ⟨hT, fun ts => ?_⟩
    induction ts with
    | nil => intro _; rw [flatK_nil, wts_nil]; rfl
    | cons t ts ihs =>
      intro h
      rw [wts_cons] at h
      rw [flatK_cons, wts_cons, List.length_append, hT t (by omega), ihs (by omega)]
theorem flatT_len (t : Tm) : (flatT t).length = wt t := (flat_len (wt t)).1 t (Nat.le_refl _)
theorem flatK_len (ts : List Tm) : (flatK ts).length = wts ts := (flat_len (wts ts)).2 ts (Nat.le_refl _)
theorem flatK_take (ts : List Tm) (k : Nat) (h : k < ts.length) : flatK (ts.take (k + 1)) = flatK (ts.take k) ++ flatT (tget ts k) := by
  rw [take_tget ts k h, flatK_append, flatK_cons, flatK_nil, List.append_nil]
theorem wts_take (ts : List Tm) (k : Nat) (h : k < ts.length) : wts (ts.take (k + 1)) = wts (ts.take k) + wt (tget ts k) := by
  rw [take_tget ts k h, wts_append, wts_cons, wts_nil]; omega

/-- Terms by value, one behind the other, their kids in the memory w. -/
def Flat (w : World) : List Value → List Tm → Prop
  | xs, [] => xs = []
  | xs, t :: ts => ∃ q c ys, xs = tcells t.h q t.ks.length c ++ ys ∧ TmIs w t.h q t.ks.length c t ∧ Flat w ys ts
theorem Flat.append {w : World} : ∀ {ts us : List Tm} {xs ys : List Value}, Flat w xs ts → Flat w ys us → Flat w (xs ++ ys) (ts ++ us)
  | [], us, xs, ys, h, k => by
    have : xs = [] := h
    subst this
    exact k
  | t :: ts, us, xs, ys, ⟨q, c, zs, he, hT, h⟩, k => ⟨q, c, zs ++ ys, by rw [he, List.append_assoc], hT, h.append k⟩
theorem Flat.len {w : World} : ∀ {ts : List Tm} {xs : List Value}, Flat w xs ts → xs.length = ts.length * 8
  | [], xs, h => by
    have : xs = [] := h
    subst this
    rfl
  | t :: ts, xs, ⟨q, c, zs, he, _, h⟩ => by
    rw [he, List.length_append, h.len, List.length_cons]
    simp [tcells]
    omega
theorem Flat.one {w : World} {t : Tm} {h : Hd} {q : Option Addr} {l c : Nat} (hT : TmIs w h q l c t) : Flat w (tcells h q l c) [t] := by
  obtain ⟨h1, h2, h3, h4, h5⟩ := hT
  subst h1 h2
  exact ⟨q, c, [], by simp, ⟨rfl, rfl, h3, h4, h5⟩, rfl⟩
theorem Flat.cells1 {w : World} : ∀ {ts : List Tm} {xs : List Value}, Flat w xs ts → ∀ u ∈ xs, u.oneCell' = true
  | [], xs, h, u, hu => by
    have : xs = [] := h
    subst this
    cases hu
  | t :: ts, xs, ⟨q, c, zs, he, _, h⟩, u, hu => by
    rw [he] at hu
    rcases List.mem_append.1 hu with hu | hu
    · simp [tcells] at hu
      rcases hu with rfl | rfl | rfl | rfl | rfl | rfl | rfl | rfl <;> rfl
    · exact h.cells1 u hu
theorem Flat.get {w : World} : ∀ {ts : List Tm} {xs : List Value}, Flat w xs ts → ∀ i, i < ts.length → ∃ q c, TmIs w (tget ts i).h q (tget ts i).ks.length c (tget ts i) ∧ ∀ j v, (tcells (tget ts i).h q (tget ts i).ks.length c)[j]? = some v → xs[i * 8 + j]? = some v
  | [], xs, _, i, hi => by simp at hi
  | t :: ts, xs, ⟨q, c, zs, he, hT, h⟩, 0, _ => by
    refine ⟨q, c, hT, fun j v hv => ?_⟩
    rw [he, Nat.zero_mul, Nat.zero_add, List.getElem?_append_left ?_]
    · exact hv
    · rcases Nat.lt_or_ge j (tcells t.h q t.ks.length c).length with h | h
      · exact h
      · rw [List.getElem?_eq_none (by exact h)] at hv; cases hv
  | t :: ts, xs, ⟨q, c, zs, he, hT, h⟩, i + 1, hi => by
    obtain ⟨q', c', h1, h2⟩ := h.get i (by simpa using hi)
    refine ⟨q', c', h1, fun j v hv => ?_⟩
    rw [he, List.getElem?_append_right (by simp [tcells]; omega)]
    have e : (i + 1) * 8 + j - (tcells t.h q t.ks.length c).length = i * 8 + j := by simp [tcells]; omega
    rw [e]
    exact h2 j v hv
theorem Flat.stay {w W : World} (hb : Below w.heap.size w W) : ∀ {ts : List Tm} {xs : List Value}, Flat w xs ts → Flat W xs ts
  | [], xs, h => h
  | t :: ts, xs, ⟨q, c, zs, he, hT, h⟩ => ⟨q, c, zs, he, hT.below hb, h.stay hb⟩
/-- A row that the call owns, of terms whose kids are there, is terms in memory. -/
theorem kids_of_own {w W : World} {B e g n c : Nat} {xs : List Value} {ts : List Tm} (h : W.ownsRow B e 8 (.slice (some ⟨g, 0, none⟩) n c) n xs) (hf : Flat w xs ts) (hb : Below w.heap.size w W) (hn : ts.length = n) : Kids W (some ⟨g, 0, none⟩) ts := by
  have hf' := hf.stay hb
  have each : ∀ i, ∃ r : Option Addr × Nat, i < ts.length → TmIs W (tget ts i).h r.1 (tget ts i).ks.length r.2 (tget ts i) ∧ ∀ j v, (tcells (tget ts i).h r.1 (tget ts i).ks.length r.2)[j]? = some v → xs[i * 8 + j]? = some v := by
    intro i
    by_cases hi : i < ts.length
    · obtain ⟨q, c, h1, h2⟩ := hf'.get i hi
      exact ⟨(q, c), fun _ => ⟨h1, h2⟩⟩
    · exact ⟨(none, 0), fun h => absurd h hi⟩
  obtain ⟨R, hR⟩ := Classical.axiomOfChoice each
  refine .atkids g 0 ts (fun i => (R i).1) (fun i => (R i).2) (fun i hi => (hR i hi).1.ok) (fun i hi j v hv => ?_) (fun i hi => (hR i hi).1.cap) (fun i hi => (hR i hi).1.kids)
  have hx := (hR i hi).2 j v hv
  have hj : j < 8 := by
    rcases Nat.lt_or_ge j 8 with h | h
    · exact h
    · rw [List.getElem?_eq_none (by simpa [tcells] using h)] at hv; cases hv
  rw [Nat.zero_add, h.cellAt (i * 8 + j) (by omega), hx]

theorem infoTerm : (Tryz.prog.info? 29).map (fun i => (i.zero, i.size, i.bytes)) = some (some (.agg #[.int .u8 0, .int .u8 0, .int .i64 0, .int .i64 0, .string ⟨#[]⟩, .string ⟨#[]⟩, .string ⟨#[]⟩, .slice none 0 0]), 8, 96) := by kernel_rfl
end Term
end Go.Proofs.YtadpjkehflokcaaGreatDoor
namespace Go.Proofs.YtadpjkehflokcaaGreatDoor
open Go.RowKit
set_option linter.unusedVariables false
namespace Term
open Words (nameB exnB)

mutual
/-- May all nodes be? -/
def okT : Tm → Bool
  | .node h l => nodeB h l.length && okK l
def okK : List Tm → Bool
  | [] => true
  | t :: ts => okT t && okK ts
end
theorem okT_eq (t : Tm) : okT t = (nodeB t.h t.ks.length && okK t.ks) := by
  cases t
  conv => lhs; unfold okT
  rfl
theorem okK_nil : okK [] = true := by unfold okK; rfl
theorem okK_cons (t : Tm) (ts : List Tm) : okK (t :: ts) = (okT t && okK ts) := by conv => lhs; unfold okK
/-- May a term be? -/
def mayT (t : Tm) : Bool := decide (wt t ≤ 4000) && okT t
end Term
end Go.Proofs.YtadpjkehflokcaaGreatDoor
