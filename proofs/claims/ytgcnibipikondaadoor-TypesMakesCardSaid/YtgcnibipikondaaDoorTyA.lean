/- Types, and how memory holds them. -/
import Derived.Test.YtgcnibipikondaaDoorRows
import Derived.WalkKit
import Derived.Below
import Derived.Deep.Slices
import Derived.Deep.Fields
import Derived.LoopTactic
import Derived.Outline
import Derived.Lib.Hide
import Derived.IntWalk
namespace Go.Proofs.YtgcnibipikondaaDoor
open Go.RowKit Go.ChangeShapes Go.WideShapes Go.Deep
set_option linter.unusedVariables false
namespace Types

/-- A node's own fields. -/
structure Hd where
  k : Int
  v : Int
inductive Ty where
  | node : Hd → List Ty → Ty
def Ty.h : Ty → Hd
  | .node h _ => h
def Ty.ks : Ty → List Ty
  | .node _ l => l
mutual
/-- How many nodes. -/
def wt : Ty → Nat
  | .node _ l => wts l + 1
def wts : List Ty → Nat
  | [] => 0
  | t :: ts => wt t + wts ts
end
theorem wt_pos (t : Ty) : 0 < wt t := by cases t; unfold wt; omega
theorem wt_ks (t : Ty) : wt t = wts t.ks + 1 := by cases t; unfold wt; rfl
theorem wts_nil : wts [] = 0 := by unfold wts; rfl
theorem wts_cons (t : Ty) (ts : List Ty) : wts (t :: ts) = wt t + wts ts := by conv => lhs; unfold wts
theorem wts_append : ∀ (ts us : List Ty), wts (ts ++ us) = wts ts + wts us
  | [], us => by rw [wts_nil]; simp
  | t :: ts, us => by rw [List.cons_append, wts_cons, wts_cons, wts_append ts us]; omega
/-- Type i of some. -/
def tget (ts : List Ty) (i : Nat) : Ty := ts.getD i (.node ⟨0, 0⟩ [])
theorem tget_at {ts : List Ty} {i : Nat} (h : i < ts.length) : ts[i]? = some (tget ts i) := by
  unfold tget
  rw [List.getD_eq_getElem?_getD, List.getElem?_eq_getElem h]
  rfl
theorem tget_mem {ts : List Ty} {i : Nat} (h : i < ts.length) : tget ts i ∈ ts := List.mem_of_getElem? (tget_at h)
theorem wts_mem : ∀ {ts : List Ty} {t : Ty}, t ∈ ts → wt t ≤ wts ts
  | t :: ts, u, h => by
    rw [wts_cons]
    rcases List.mem_cons.1 h with rfl | h
    · omega
    · have := wts_mem h; omega
theorem wts_get {ts : List Ty} {i : Nat} (h : i < ts.length) : wt (tget ts i) ≤ wts ts := wts_mem (tget_mem h)

/-- A type's three cells. -/
def tcells (h : Hd) (p : Option Addr) (l c : Nat) : List Value := [.int .u8 h.k, .int .i64 h.v, .slice p l c]
/-- Its numbers are of their kinds. -/
structure HdOk (h : Hd) : Prop where
  k : 0 ≤ h.k ∧ h.k ≤ 255
  v : -9223372036854775808 ≤ h.v ∧ h.v ≤ 9223372036854775807

/-- A slice's types, and theirs, as memory holds them: nothing is asked of an empty one. -/
inductive Kids (w : World) : Option Addr → List Ty → Prop where
  | nokids (p : Option Addr) : Kids w p []
  | atkids (b o : Nat) (ts : List Ty) (q : Nat → Option Addr) (c : Nat → Nat)
      (hh : ∀ i, i < ts.length → HdOk (tget ts i).h)
      (hc : ∀ i, i < ts.length → ∀ j v, (tcells (tget ts i).h (q i) (tget ts i).ks.length (c i))[j]? = some v → w.cell? ⟨b, o + i * 3 + j, none⟩ = some v)
      (hl : ∀ i, i < ts.length → (tget ts i).ks.length ≤ c i ∧ c i ≤ maxLen)
      (hk : ∀ i, i < ts.length → Kids w (q i) (tget ts i).ks) : Kids w (some ⟨b, o, none⟩) ts

/-- A type by value: its fields, and its kids. -/
structure TyIs (w : World) (h : Hd) (p : Option Addr) (l c : Nat) (t : Ty) : Prop where
  head : t.h = h
  len : t.ks.length = l
  ok : HdOk h
  cap : l ≤ c ∧ c ≤ maxLen
  kids : Kids w p t.ks

theorem Kids.get {w : World} {p : Option Addr} {ts : List Ty} (h : Kids w p ts) (i : Nat) (hi : i < ts.length) :
    ∃ b o q c, p = some ⟨b, o, none⟩ ∧ TyIs w (tget ts i).h q (tget ts i).ks.length c (tget ts i) ∧
      w.cell? ⟨b, o + i * 3, none⟩ = some (.int .u8 (tget ts i).h.k) ∧ w.cell? ⟨b, o + i * 3 + 1, none⟩ = some (.int .i64 (tget ts i).h.v) ∧ w.cell? ⟨b, o + i * 3 + 2, none⟩ = some (.slice q (tget ts i).ks.length c) := by
  cases h with
  | nokids => simp at hi
  | atkids b o _ q c hh hc hl hk =>
    have hci := hc i hi
    exact ⟨b, o, q i, c i, rfl, ⟨rfl, rfl, hh i hi, hl i hi, hk i hi⟩, hci 0 _ rfl, hci 1 _ rfl, hci 2 _ rfl⟩
theorem Kids.stay {w W : World} {p : Option Addr} {ts : List Ty} (h : Kids w p ts) (hb : Below w.heap.size w W) : Kids W p ts := by
  induction h with
  | nokids p => exact .nokids p
  | atkids b o ts q c hh hc hl hk ih =>
    refine .atkids b o ts q c hh (fun i hi j v hv => ?_) hl (fun i hi => ih i hi)
    have h0 := hc i hi j v hv
    exact (hb.cell (p := ⟨b, o + i * 3 + j, none⟩) (World.block_lt_of_cell? w _ h0)).trans h0
theorem TyIs.below {w W : World} {h : Hd} {p : Option Addr} {l c : Nat} {t : Ty} (k : TyIs w h p l c t) (hb : Below w.heap.size w W) : TyIs W h p l c t := ⟨k.head, k.len, k.ok, k.cap, k.kids.stay hb⟩

/-! ### How an argument is seen -/
theorem list3 {α : Type} {l : List α} (h : l.length = 3) : ∃ a b c, l = [a, b, c] := by
  match l, h with
  | [a, b, c], _ => exact ⟨a, b, c, rfl⟩
theorem tyCells : Tryd.prog.cellsOf 24 = 3 := by kernel_rfl
theorem tyFields : ∃ f0 f1 f2 : Field, Tryd.prog.underlying 24 = some (.struct #[f0, f1, f2]) ∧ oneCellFields Tryd.prog #[f0, f1, f2] = true ∧ Tryd.prog.underlying f0.type = some (.int .u8) ∧ Tryd.prog.underlying f1.type = some (.int .i64) ∧ f2.type = 22 :=
  ⟨_, _, _, Tryd.underlying24, by kernel_rfl, by kernel_rfl, by kernel_rfl, by kernel_rfl⟩

section
variable {H : Type} {enc : TypeId × Value → H} {w : World} {base : Nat} {sp : Nat → Bool} {held : Bool}
theorem wf_u8 {n : Int} (h : (Lit.int .u8 n).wf = true) : 0 ≤ n ∧ n ≤ 255 := by
  simp [Lit.wf, IntKind.min, IntKind.max, IntKind.signed, IntKind.bits] at h
  omega
theorem wf_i64 {n : Int} (h : (Lit.int .i64 n).wf = true) : -9223372036854775808 ≤ n ∧ n ≤ 9223372036854775807 := by
  simp [Lit.wf, IntKind.min, IntKind.max, IntKind.signed, IntKind.bits] at h
  omega
theorem open_all : ∀ fuel : Nat,
    (∀ (cs : List Value) (y : DataW H × List MemPlace), DataW.trod enc Tryd.prog w base sp held fuel 24 cs = some y → ∃ h p l c t, cs = tcells h p l c ∧ TyIs w h p l c t) ∧
    (∀ (cs : List Value) (y : DataW H × List MemPlace), DataW.trod enc Tryd.prog w base sp held fuel 22 cs = some y → ∃ p l c ts, cs = [.slice p l c] ∧ ts.length = l ∧ l ≤ c ∧ c ≤ maxLen ∧ Kids w p ts) := by
  intro fuel
  induction fuel using Nat.strongRecOn with
  | _ fuel ih =>
    constructor
    · intro cs y h
      obtain ⟨f0, f1, f2, hu, hone, u0, u1, t2⟩ := tyFields
      obtain ⟨xs, n, hfuel, _, hlen, hxl, hf⟩ := DataW.trod_struct hu h
      rw [tyCells] at hlen
      obtain ⟨c0, c1, c2, rfl⟩ := list3 hlen
      have hxl' : xs.length = 3 := hxl
      obtain ⟨y0, y1, y2, rfl⟩ := list3 hxl'
      obtain ⟨o0, k0⟩ := hone_of hone 0 f0 rfl
      obtain ⟨o1, k1⟩ := hone_of hone 1 f1 rfl
      obtain ⟨o2, k2⟩ := hone_of hone 2 f2 rfl
      have h0 := hf 0 f0 rfl
      have h1 := hf 1 f1 rfl
      have h2 := hf 2 f2 rfl
      rw [o0, k0] at h0; rw [o1, k1] at h1; rw [o2, k2] at h2
      have e0 : DataW.trod enc Tryd.prog w base sp held n f0.type [c0] = some y0 := h0
      have e1 : DataW.trod enc Tryd.prog w base sp held n f1.type [c1] = some y1 := h1
      have e2 : DataW.trod enc Tryd.prog w base sp held n f2.type [c2] = some y2 := h2
      rw [t2] at e2
      obtain ⟨K, r0, _, g0⟩ := DataW.trod_int u0 e0
      obtain ⟨O, r1, _, g1⟩ := DataW.trod_int u1 e1
      injection r0 with r0; injection r1 with r1
      subst r0 r1
      obtain ⟨p, l, c, ts, hcs1, hl, hlc, hcm, hk⟩ := (ih n (by omega)).2 _ _ e2
      injection hcs1 with hcs1
      subst hcs1
      exact ⟨⟨K, O⟩, p, l, c, .node ⟨K, O⟩ ts, rfl, ⟨rfl, hl, ⟨wf_u8 g0, wf_i64 g1⟩, ⟨hlc, hcm⟩, hk⟩⟩
    · intro cs y h
      rcases DataW.trod_slice Tryd.underlying22 h with ⟨rfl, _⟩ | ⟨a, len, cap, elems, rest, n, hfuel, rfl, _, hb, hl, hm, hlen, hel, _, _⟩
      · exact ⟨none, 0, 0, [], rfl, rfl, Nat.le_refl _, by unfold maxLen; omega, Kids.nokids _⟩
      · have each : ∀ i, i < len → ∃ h q l c t, TyIs w h q l c t ∧ ∀ j v, (tcells h q l c)[j]? = some v → w.cell? ((a.add (i * 3)).add j) = some v := by
          intro i hi
          have he := hel i hi
          rw [tyCells, List.getElem?_eq_getElem (by omega)] at he
          obtain ⟨cs', hc, ht⟩ := Option.bind_eq_some_iff.1 he
          obtain ⟨h, q, l, c, t, rfl, hT⟩ := (ih n (by omega)).1 _ _ ht
          obtain ⟨_, _, hcell⟩ := World.cells?_some hc
          refine ⟨h, q, l, c, t, hT, fun j v hv => ?_⟩
          have hj : j < 3 := by
            rcases Nat.lt_or_ge j 3 with h | h
            · exact h
            · rw [List.getElem?_eq_none (by simpa [tcells] using h)] at hv; cases hv
          rw [hcell j hj, hv]
        have each' : ∀ i, ∃ r : Option Addr × Nat × Ty, i < len → TyIs w r.2.2.h r.1 r.2.2.ks.length r.2.1 r.2.2 ∧ ∀ j v, (tcells r.2.2.h r.1 r.2.2.ks.length r.2.1)[j]? = some v → w.cell? ((a.add (i * 3)).add j) = some v := by
          intro i
          by_cases hi : i < len
          · obtain ⟨h, q, l, c, t, hT, hc⟩ := each i hi
            have e1 := hT.head
            have e2 := hT.len
            subst e1 e2
            exact ⟨(q, c, t), fun _ => ⟨hT, hc⟩⟩
          · exact ⟨(none, 0, .node ⟨0, 0⟩ []), fun h => absurd h hi⟩
        obtain ⟨R, hR⟩ := Classical.axiomOfChoice each'
        obtain ⟨F, hFd⟩ : ∃ F : Nat → Ty, F = fun i => (R i).2.2 := ⟨_, rfl⟩
        obtain ⟨Q, hQd⟩ : ∃ Q : Nat → Option Addr, Q = fun i => (R i).1 := ⟨_, rfl⟩
        obtain ⟨C, hCd⟩ : ∃ C : Nat → Nat, C = fun i => (R i).2.1 := ⟨_, rfl⟩
        have hF : ∀ i, i < len → TyIs w (F i).h (Q i) (F i).ks.length (C i) (F i) ∧ ∀ j v, (tcells (F i).h (Q i) (F i).ks.length (C i))[j]? = some v → w.cell? ((a.add (i * 3)).add j) = some v := by
          subst hFd hQd hCd
          exact hR
        have hlen' : ((List.range len).map F).length = len := by simp
        have hget : ∀ i, i < len → tget ((List.range len).map F) i = F i := by
          intro i hi
          unfold tget
          rw [List.getD_eq_getElem?_getD, List.getElem?_map, List.getElem?_range hi]
          rfl
        refine ⟨some a, len, cap, (List.range len).map F, rfl, hlen', hl, hm, ?_⟩
        by_cases h0 : len = 0
        · subst h0; exact .nokids _
        · obtain ⟨b, o, s⟩ := a
          have h1 := (hF 0 (by omega)).2 0 _ rfl
          have hs : s = none := by
            have := World.cell?_spot h1
            simpa [Addr.add] using this
          subst hs
          refine .atkids b o _ Q C (fun i hi => ?_) (fun i hi j v hv => ?_) (fun i hi => ?_) (fun i hi => ?_)
          · rw [hlen'] at hi; rw [hget i hi]; exact (hF i hi).1.ok
          · rw [hlen'] at hi; rw [hget i hi] at hv
            have := (hF i hi).2 j v hv
            rw [Addr.add_lit, Addr.add_lit] at this
            exact this
          · rw [hlen'] at hi; rw [hget i hi]; exact (hF i hi).1.cap
          · rw [hlen'] at hi; rw [hget i hi]; exact (hF i hi).1.kids
end
theorem ret_i64 {a b : Int} (h : a = b) : Ending.returned (.int .i64 a) = .returned (.int .i64 b) := by rw [h]
theorem ret_bool {a b : Bool} (h : a = b) : Ending.returned (.bool a) = .returned (.bool b) := by rw [h]
theorem drop_tget (ts : List Ty) (k : Nat) (h : k < ts.length) : ts.drop k = tget ts k :: ts.drop (k + 1) := by
  rw [List.drop_eq_getElem_cons h]
  have := tget_at h
  rw [List.getElem?_eq_getElem h] at this
  rw [Option.some.inj this]
/-- A block just laid reads as it was laid, whatever came behind it. -/
theorem boxAt {w W : World} {cs : Array Value} {t : TypeId} (hb : Below (w.alloc (.cells cs t)).heap.size (w.alloc (.cells cs t)) W) (j : Nat) {v : Value} (hv : cs[j]? = some v) : W.cell? ⟨w.heap.size, j, none⟩ = some v := by
  have hlt : w.heap.size < (w.alloc (.cells cs t)).heap.size := by simp
  rw [hb.cell (p := ⟨w.heap.size, j, none⟩) hlt, World.cell?_alloc_mark, hv]

theorem take_tget (ts : List Ty) (k : Nat) (h : k < ts.length) : ts.take (k + 1) = ts.take k ++ [tget ts k] := by
  rw [List.take_add_one, tget_at h]; rfl
theorem wts_take_le : ∀ (ts : List Ty) (k : Nat), wts (ts.take k) ≤ wts ts
  | [], k => by simp
  | t :: ts, 0 => by rw [List.take_zero, wts_nil]; omega
  | t :: ts, k + 1 => by rw [List.take_succ_cons, wts_cons, wts_cons]; have := wts_take_le ts k; omega

/-! ### Arguments -/
/-- A slice of types, as memory holds it. -/
def IsTys (w : World) (a : Option Addr) (len cap : Nat) (ts : List Ty) : Prop := ts.length = len ∧ len ≤ cap ∧ cap ≤ maxLen ∧ Kids w a ts
section
variable {H : Type} {enc : TypeId × Value → H} {w : World} {base : Nat} {sp : Nat → Bool} {held : Bool}
theorem open_ty {fuel : Nat} {cs : Array Value} {y : DataW H × List MemPlace} (h : DataW.trod enc Tryd.prog w base sp held fuel 24 (Value.agg cs).cells.toList = some y) :
    ∃ h p l c t, cs = #[.int .u8 h.k, .int .i64 h.v, .slice p l c] ∧ TyIs w h p l c t := by
  obtain ⟨hd, p, l, c, t, hc, hT⟩ := (open_all fuel).1 _ _ h
  refine ⟨hd, p, l, c, t, ?_, hT⟩
  have h1 : cs.toList = tcells hd p l c := hc
  exact Array.toList_inj.1 h1
theorem open_tys {fuel : Nat} {a : Option Addr} {len cap : Nat} {y : DataW H × List MemPlace} (h : DataW.trod enc Tryd.prog w base sp held fuel 22 (Value.slice a len cap).cells.toList = some y) : ∃ ts, IsTys w a len cap ts := by
  obtain ⟨p, l, c, ts, hc, h1, h2, h3, h4⟩ := (open_all fuel).2 _ _ h
  have h5 : [Value.slice a len cap] = [.slice p l c] := hc
  injection h5 with h5
  injection h5 with e1 e2 e3
  subst e1 e2 e3
  exact ⟨ts, h1, h2, h3, h4⟩
end
end Types
end Go.Proofs.YtgcnibipikondaaDoor
