/- Terms, and how memory holds them. -/
import Derived.Test.YtlmaphaipcfppaaGreatDoorRows
import Derived.WalkKit
import Derived.Below
import Derived.Deep.Slices
import Derived.Deep.Fields
namespace Go.Proofs.YtlmaphaipcfppaaGreatDoor
open Go.RowKit Go.ChangeShapes Go.WideShapes Go.Deep
set_option linter.unusedVariables false
namespace Term

/-- A node's own fields. -/
structure Hd where
  k : Int
  op : Int
  pl : Int
  n : Int
  name : ByteArray
  arg : ByteArray
  exn : ByteArray
inductive Tm where
  | node : Hd → List Tm → Tm
def Tm.h : Tm → Hd
  | .node h _ => h
def Tm.ks : Tm → List Tm
  | .node _ l => l
mutual
/-- How many nodes. -/
def wt : Tm → Nat
  | .node _ l => wts l + 1
def wts : List Tm → Nat
  | [] => 0
  | t :: ts => wt t + wts ts
end
theorem wt_pos (t : Tm) : 0 < wt t := by cases t; unfold wt; omega
theorem wt_ks (t : Tm) : wt t = wts t.ks + 1 := by cases t; unfold wt; rfl
theorem wts_nil : wts [] = 0 := by unfold wts; rfl
theorem wts_cons (t : Tm) (ts : List Tm) : wts (t :: ts) = wt t + wts ts := by conv => lhs; unfold wts
theorem wts_append : ∀ (ts us : List Tm), wts (ts ++ us) = wts ts + wts us
  | [], us => by rw [wts_nil]; simp
  | t :: ts, us => by rw [List.cons_append, wts_cons, wts_cons, wts_append ts us]; omega
/-- Term i of some. -/
def tget (ts : List Tm) (i : Nat) : Tm := ts.getD i (.node ⟨0, 0, 0, 0, ByteArray.empty, ByteArray.empty, ByteArray.empty⟩ [])
theorem tget_at {ts : List Tm} {i : Nat} (h : i < ts.length) : ts[i]? = some (tget ts i) := by
  unfold tget
  rw [List.getD_eq_getElem?_getD, List.getElem?_eq_getElem h]
  rfl
theorem tget_mem {ts : List Tm} {i : Nat} (h : i < ts.length) : tget ts i ∈ ts := List.mem_of_getElem? (tget_at h)
theorem wts_mem : ∀ {ts : List Tm} {t : Tm}, t ∈ ts → wt t ≤ wts ts
  | t :: ts, u, h => by
    rw [wts_cons]
    rcases List.mem_cons.1 h with rfl | h
    · omega
    · have := wts_mem h; omega
theorem wts_get {ts : List Tm} {i : Nat} (h : i < ts.length) : wt (tget ts i) ≤ wts ts := wts_mem (tget_mem h)

def hcells (h : Hd) : List Value := [.int .u8 h.k, .int .u8 h.op, .int .i64 h.pl, .int .i64 h.n, .string h.name, .string h.arg, .string h.exn]
/-- A term's eight cells. -/
def tcells (h : Hd) (p : Option Addr) (l c : Nat) : List Value := [.int .u8 h.k, .int .u8 h.op, .int .i64 h.pl, .int .i64 h.n, .string h.name, .string h.arg, .string h.exn, .slice p l c]
/-- Its numbers are of their kinds, its texts are no longer than texts are. -/
structure HdOk (h : Hd) : Prop where
  k : 0 ≤ h.k ∧ h.k ≤ 255
  op : 0 ≤ h.op ∧ h.op ≤ 255
  pl : -9223372036854775808 ≤ h.pl ∧ h.pl ≤ 9223372036854775807
  n : -9223372036854775808 ≤ h.n ∧ h.n ≤ 9223372036854775807
  name : h.name.size ≤ maxLen
  arg : h.arg.size ≤ maxLen
  exn : h.exn.size ≤ maxLen

/-- A slice's terms, and theirs, as memory holds them: nothing is asked of an empty one. -/
inductive Kids (w : World) : Option Addr → List Tm → Prop where
  | nokids (p : Option Addr) : Kids w p []
  | atkids (b o : Nat) (ts : List Tm) (q : Nat → Option Addr) (c : Nat → Nat)
      (hh : ∀ i, i < ts.length → HdOk (tget ts i).h)
      (hc : ∀ i, i < ts.length → ∀ j v, (tcells (tget ts i).h (q i) (tget ts i).ks.length (c i))[j]? = some v → w.cell? ⟨b, o + i * 8 + j, none⟩ = some v)
      (hl : ∀ i, i < ts.length → (tget ts i).ks.length ≤ c i ∧ c i ≤ maxLen)
      (hk : ∀ i, i < ts.length → Kids w (q i) (tget ts i).ks) : Kids w (some ⟨b, o, none⟩) ts

/-- A term by value: its fields, and its kids. -/
structure TmIs (w : World) (h : Hd) (p : Option Addr) (l c : Nat) (t : Tm) : Prop where
  head : t.h = h
  len : t.ks.length = l
  ok : HdOk h
  cap : l ≤ c ∧ c ≤ maxLen
  kids : Kids w p t.ks

theorem Kids.get {w : World} {p : Option Addr} {ts : List Tm} (h : Kids w p ts) (i : Nat) (hi : i < ts.length) :
    ∃ b o q c, p = some ⟨b, o, none⟩ ∧ TmIs w (tget ts i).h q (tget ts i).ks.length c (tget ts i) ∧
      w.cell? ⟨b, o + i * 8, none⟩ = some (.int .u8 (tget ts i).h.k) ∧ w.cell? ⟨b, o + i * 8 + 1, none⟩ = some (.int .u8 (tget ts i).h.op) ∧ w.cell? ⟨b, o + i * 8 + 2, none⟩ = some (.int .i64 (tget ts i).h.pl) ∧
      w.cell? ⟨b, o + i * 8 + 3, none⟩ = some (.int .i64 (tget ts i).h.n) ∧ w.cell? ⟨b, o + i * 8 + 4, none⟩ = some (.string (tget ts i).h.name) ∧ w.cell? ⟨b, o + i * 8 + 5, none⟩ = some (.string (tget ts i).h.arg) ∧
      w.cell? ⟨b, o + i * 8 + 6, none⟩ = some (.string (tget ts i).h.exn) ∧ w.cell? ⟨b, o + i * 8 + 7, none⟩ = some (.slice q (tget ts i).ks.length c) := by
  cases h with
  | nokids => simp at hi
  | atkids b o _ q c hh hc hl hk =>
    have hci := hc i hi
    exact ⟨b, o, q i, c i, rfl, ⟨rfl, rfl, hh i hi, hl i hi, hk i hi⟩, hci 0 _ rfl, hci 1 _ rfl, hci 2 _ rfl, hci 3 _ rfl, hci 4 _ rfl, hci 5 _ rfl, hci 6 _ rfl, hci 7 _ rfl⟩
theorem Kids.stay {w W : World} {p : Option Addr} {ts : List Tm} (h : Kids w p ts) (hb : Below w.heap.size w W) : Kids W p ts := by
  induction h with
  | nokids p => exact .nokids p
  | atkids b o ts q c hh hc hl hk ih =>
    refine .atkids b o ts q c hh (fun i hi j v hv => ?_) hl (fun i hi => ih i hi)
    have h0 := hc i hi j v hv
    exact (hb.cell (p := ⟨b, o + i * 8 + j, none⟩) (World.block_lt_of_cell? w _ h0)).trans h0
theorem TmIs.below {w W : World} {h : Hd} {p : Option Addr} {l c : Nat} {t : Tm} (k : TmIs w h p l c t) (hb : Below w.heap.size w W) : TmIs W h p l c t := ⟨k.head, k.len, k.ok, k.cap, k.kids.stay hb⟩

/-! ### How an argument is seen -/
theorem list8 {α : Type} {l : List α} (h : l.length = 8) : ∃ a b c d e f g i, l = [a, b, c, d, e, f, g, i] := by
  match l, h with
  | [a, b, c, d, e, f, g, i], _ => exact ⟨a, b, c, d, e, f, g, i, rfl⟩
theorem list7 {α : Type} {l : List α} (h : l.length = 7) : ∃ a b c d e f g, l = [a, b, c, d, e, f, g] := by
  match l, h with
  | [a, b, c, d, e, f, g], _ => exact ⟨a, b, c, d, e, f, g, rfl⟩
theorem list2 {α : Type} {l : List α} (h : l.length = 2) : ∃ a b, l = [a, b] := by
  match l, h with
  | [a, b], _ => exact ⟨a, b, rfl⟩
theorem hdFields : ∃ f0 f1 f2 f3 f4 f5 f6 : Field, Tryz.prog.underlying 26 = some (.struct #[f0, f1, f2, f3, f4, f5, f6]) ∧ oneCellFields Tryz.prog #[f0, f1, f2, f3, f4, f5, f6] = true ∧
    Tryz.prog.underlying f0.type = some (.int .u8) ∧ Tryz.prog.underlying f1.type = some (.int .u8) ∧ Tryz.prog.underlying f2.type = some (.int .i64) ∧ Tryz.prog.underlying f3.type = some (.int .i64) ∧
    Tryz.prog.underlying f4.type = some .string ∧ Tryz.prog.underlying f5.type = some .string ∧ Tryz.prog.underlying f6.type = some .string :=
  ⟨_, _, _, _, _, _, _, Tryz.underlying26, by kernel_rfl, by kernel_rfl, by kernel_rfl, by kernel_rfl, by kernel_rfl, by kernel_rfl, by kernel_rfl, by kernel_rfl⟩
theorem hdCells : Tryz.prog.cellsOf 26 = 7 := by kernel_rfl
theorem tmCells : Tryz.prog.cellsOf 29 = 8 := by kernel_rfl
theorem tmFields : ∃ f0 f1 : Field, Tryz.prog.underlying 29 = some (.struct #[f0, f1]) ∧ f0.type = 26 ∧ f1.type = 27 ∧ f0.offset = 0 ∧ f1.offset = 7 ∧ Tryz.prog.cellsOf f1.type = 1 :=
  ⟨_, _, Tryz.underlying29, by kernel_rfl, by kernel_rfl, by kernel_rfl, by kernel_rfl, by kernel_rfl⟩

section
variable {H : Type} {enc : TypeId × Value → H} {w : World} {base : Nat} {sp : Nat → Bool} {held : Bool}
theorem wf_u8 {n : Int} (h : (Lit.int .u8 n).wf = true) : 0 ≤ n ∧ n ≤ 255 := by
  simp [Lit.wf, IntKind.min, IntKind.max, IntKind.signed, IntKind.bits] at h
  omega
theorem wf_i64 {n : Int} (h : (Lit.int .i64 n).wf = true) : -9223372036854775808 ≤ n ∧ n ≤ 9223372036854775807 := by
  simp [Lit.wf, IntKind.min, IntKind.max, IntKind.signed, IntKind.bits] at h
  omega
/-- A head's cells, of what reads as one. -/
theorem open_hd {fuel : Nat} {cs : List Value} {y : DataW H × List MemPlace} (h : DataW.trod enc Tryz.prog w base sp held fuel 26 cs = some y) : ∃ hd : Hd, cs = hcells hd ∧ HdOk hd := by
  obtain ⟨f0, f1, f2, f3, f4, f5, f6, hu, hone, u0, u1, u2, u3, u4, u5, u6⟩ := hdFields
  obtain ⟨xs, n, _, _, hlen, hxl, hf⟩ := DataW.trod_struct hu h
  rw [hdCells] at hlen
  obtain ⟨c0, c1, c2, c3, c4, c5, c6, rfl⟩ := list7 hlen
  have hxl' : xs.length = 7 := hxl
  obtain ⟨y0, y1, y2, y3, y4, y5, y6, rfl⟩ := list7 hxl'
  obtain ⟨o0, k0⟩ := hone_of hone 0 f0 rfl
  obtain ⟨o1, k1⟩ := hone_of hone 1 f1 rfl
  obtain ⟨o2, k2⟩ := hone_of hone 2 f2 rfl
  obtain ⟨o3, k3⟩ := hone_of hone 3 f3 rfl
  obtain ⟨o4, k4⟩ := hone_of hone 4 f4 rfl
  obtain ⟨o5, k5⟩ := hone_of hone 5 f5 rfl
  obtain ⟨o6, k6⟩ := hone_of hone 6 f6 rfl
  have h0 := hf 0 f0 rfl
  have h1 := hf 1 f1 rfl
  have h2 := hf 2 f2 rfl
  have h3 := hf 3 f3 rfl
  have h4 := hf 4 f4 rfl
  have h5 := hf 5 f5 rfl
  have h6 := hf 6 f6 rfl
  rw [o0, k0] at h0; rw [o1, k1] at h1; rw [o2, k2] at h2; rw [o3, k3] at h3; rw [o4, k4] at h4; rw [o5, k5] at h5; rw [o6, k6] at h6
  have e0 : DataW.trod enc Tryz.prog w base sp held n f0.type [c0] = some y0 := h0
  have e1 : DataW.trod enc Tryz.prog w base sp held n f1.type [c1] = some y1 := h1
  have e2 : DataW.trod enc Tryz.prog w base sp held n f2.type [c2] = some y2 := h2
  have e3 : DataW.trod enc Tryz.prog w base sp held n f3.type [c3] = some y3 := h3
  have e4 : DataW.trod enc Tryz.prog w base sp held n f4.type [c4] = some y4 := h4
  have e5 : DataW.trod enc Tryz.prog w base sp held n f5.type [c5] = some y5 := h5
  have e6 : DataW.trod enc Tryz.prog w base sp held n f6.type [c6] = some y6 := h6
  obtain ⟨K, r0, _, g0⟩ := DataW.trod_int u0 e0
  obtain ⟨O, r1, _, g1⟩ := DataW.trod_int u1 e1
  obtain ⟨P, r2, _, g2⟩ := DataW.trod_int u2 e2
  obtain ⟨N, r3, _, g3⟩ := DataW.trod_int u3 e3
  obtain ⟨s4, r4, _, g4⟩ := DataW.trod_string u4 e4
  obtain ⟨s5, r5, _, g5⟩ := DataW.trod_string u5 e5
  obtain ⟨s6, r6, _, g6⟩ := DataW.trod_string u6 e6
  injection r0 with r0; injection r1 with r1; injection r2 with r2; injection r3 with r3; injection r4 with r4; injection r5 with r5; injection r6 with r6
  subst r0 r1 r2 r3 r4 r5 r6
  exact ⟨⟨K, O, P, N, s4, s5, s6⟩, rfl, ⟨wf_u8 g0, wf_u8 g1, wf_i64 g2, wf_i64 g3, g4, g5, g6⟩⟩

theorem open_all : ∀ fuel : Nat,
    (∀ (cs : List Value) (y : DataW H × List MemPlace), DataW.trod enc Tryz.prog w base sp held fuel 29 cs = some y → ∃ h p l c t, cs = tcells h p l c ∧ TmIs w h p l c t) ∧
    (∀ (cs : List Value) (y : DataW H × List MemPlace), DataW.trod enc Tryz.prog w base sp held fuel 27 cs = some y → ∃ p l c ts, cs = [.slice p l c] ∧ ts.length = l ∧ l ≤ c ∧ c ≤ maxLen ∧ Kids w p ts) := by
  intro fuel
  induction fuel using Nat.strongRecOn with
  | _ fuel ih =>
    constructor
    · intro cs y h
      obtain ⟨f0, f1, hu, t0, t1, o0, o1, k1⟩ := tmFields
      obtain ⟨xs, n, hfuel, _, hlen, hxl, hf⟩ := DataW.trod_struct hu h
      rw [tmCells] at hlen
      obtain ⟨c0, c1, c2, c3, c4, c5, c6, c7, rfl⟩ := list8 hlen
      have hxl' : xs.length = 2 := hxl
      obtain ⟨y0, y1, rfl⟩ := list2 hxl'
      have h0 := hf 0 f0 rfl
      have h1 := hf 1 f1 rfl
      rw [t0, hdCells, o0] at h0
      rw [k1, t1, o1] at h1
      have e0 : DataW.trod enc Tryz.prog w base sp held n 26 [c0, c1, c2, c3, c4, c5, c6] = some y0 := h0
      have e1 : DataW.trod enc Tryz.prog w base sp held n 27 [c7] = some y1 := h1
      obtain ⟨hd, hcs, hok⟩ := open_hd e0
      obtain ⟨p, l, c, ts, hcs1, hl, hlc, hcm, hk⟩ := (ih n (by omega)).2 _ _ e1
      injection hcs1 with hcs1
      subst hcs1
      refine ⟨hd, p, l, c, .node hd ts, ?_, ⟨rfl, hl, hok, ⟨hlc, hcm⟩, hk⟩⟩
      unfold hcells at hcs
      unfold tcells
      simp only [List.cons.injEq, and_true] at hcs ⊢
      exact hcs
    · intro cs y h
      rcases DataW.trod_slice Tryz.underlying27 h with ⟨rfl, _⟩ | ⟨a, len, cap, elems, rest, n, hfuel, rfl, _, hb, hl, hm, hlen, hel, _, _⟩
      · exact ⟨none, 0, 0, [], rfl, rfl, Nat.le_refl _, by unfold maxLen; omega, Kids.nokids _⟩
      · have each : ∀ i, i < len → ∃ h q l c t, TmIs w h q l c t ∧ ∀ j v, (tcells h q l c)[j]? = some v → w.cell? ((a.add (i * 8)).add j) = some v := by
          intro i hi
          have he := hel i hi
          rw [tmCells, List.getElem?_eq_getElem (by omega)] at he
          obtain ⟨cs', hc, ht⟩ := Option.bind_eq_some_iff.1 he
          obtain ⟨h, q, l, c, t, rfl, hT⟩ := (ih n (by omega)).1 _ _ ht
          obtain ⟨_, _, hcell⟩ := World.cells?_some hc
          refine ⟨h, q, l, c, t, hT, fun j v hv => ?_⟩
          have hj : j < 8 := by
            rcases Nat.lt_or_ge j 8 with h | h
            · exact h
            · rw [List.getElem?_eq_none (by simpa [tcells] using h)] at hv; cases hv
          rw [hcell j hj, hv]
        have each' : ∀ i, ∃ r : Option Addr × Nat × Tm, i < len → TmIs w r.2.2.h r.1 r.2.2.ks.length r.2.1 r.2.2 ∧ ∀ j v, (tcells r.2.2.h r.1 r.2.2.ks.length r.2.1)[j]? = some v → w.cell? ((a.add (i * 8)).add j) = some v := by
          intro i
          by_cases hi : i < len
          · obtain ⟨h, q, l, c, t, hT, hc⟩ := each i hi
            have e1 := hT.head
            have e2 := hT.len
            subst e1 e2
            exact ⟨(q, c, t), fun _ => ⟨hT, hc⟩⟩
          · exact ⟨(none, 0, .node ⟨0, 0, 0, 0, ByteArray.empty, ByteArray.empty, ByteArray.empty⟩ []), fun h => absurd h hi⟩
        obtain ⟨R, hR⟩ := Classical.axiomOfChoice each'
        obtain ⟨F, hFd⟩ : ∃ F : Nat → Tm, F = fun i => (R i).2.2 := ⟨_, rfl⟩
        obtain ⟨Q, hQd⟩ : ∃ Q : Nat → Option Addr, Q = fun i => (R i).1 := ⟨_, rfl⟩
        obtain ⟨C, hCd⟩ : ∃ C : Nat → Nat, C = fun i => (R i).2.1 := ⟨_, rfl⟩
        have hF : ∀ i, i < len → TmIs w (F i).h (Q i) (F i).ks.length (C i) (F i) ∧ ∀ j v, (tcells (F i).h (Q i) (F i).ks.length (C i))[j]? = some v → w.cell? ((a.add (i * 8)).add j) = some v := by
          subst hFd hQd hCd
          exact hR
        have hlen' : ((List.range len).map F).length = len := by simp
        have hget : ∀ i, i < len → tget ((List.range len).map F) i = F i := by
          intro i hi
          unfold tget
          rw [List.getD_eq_getElem?_getD, List.getElem?_map, List.getElem?_range hi]
          rfl
        refine ⟨some a, len, cap, (List.range len).map F, rfl, hlen', hl, hm, ?_⟩
        by_cases h0 : len = 0
        · subst h0; exact .nokids _
        · obtain ⟨b, o, s⟩ := a
          have h1 := (hF 0 (by omega)).2 0 _ rfl
          have hs : s = none := by
            have := World.cell?_spot h1
            simpa [Addr.add] using this
          subst hs
          refine .atkids b o _ Q C (fun i hi => ?_) (fun i hi j v hv => ?_) (fun i hi => ?_) (fun i hi => ?_)
          · rw [hlen'] at hi; rw [hget i hi]; exact (hF i hi).1.ok
          · rw [hlen'] at hi; rw [hget i hi] at hv
            have := (hF i hi).2 j v hv
            rw [Addr.add_lit, Addr.add_lit] at this
            exact this
          · rw [hlen'] at hi; rw [hget i hi]; exact (hF i hi).1.cap
          · rw [hlen'] at hi; rw [hget i hi]; exact (hF i hi).1.kids
end
end Term
end Go.Proofs.YtlmaphaipcfppaaGreatDoor
