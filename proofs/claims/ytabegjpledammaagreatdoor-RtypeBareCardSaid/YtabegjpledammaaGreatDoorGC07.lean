/-Types, and how memory holds them. Types: mathematics: how many nodes, which kinds, which may be, which are the same, and their words. -/
import Derived.Test.YtabegjpledammaaGreatDoorRows
import Derived.WalkKit
import Derived.Below
import Derived.Deep.Slices
import Derived.Deep.Fields
import Derived.LoopTactic
import Derived.Outline
import Derived.Lib.Hide
import Derived.IntWalk
import Derived.Lib.Join
import Derived.Lib.ItoaLen
namespace Go.Proofs.YtabegjpledammaaGreatDoor
open Go.RowKit Go.ChangeShapes Go.WideShapes Go.Deep
set_option linter.unusedVariables false
namespace Types

/-- A node's own fields. -/
structure Hd where
  k : Int
  v : Int
inductive Ty where
  | node : Hd → List Ty → Ty
def Ty.h : Ty → Hd
  | .node h _ => h
def Ty.ks : Ty → List Ty
  | .node _ l => l
mutual
/-- How many nodes. -/
def wt : Ty → Nat
  | .node _ l => wts l + 1
def wts : List Ty → Nat
  | [] => 0
  | t :: ts => wt t + wts ts
end
theorem wt_pos (t : Ty) : 0 < wt t := by cases t; unfold wt; omega
theorem wt_ks (t : Ty) : wt t = wts t.ks + 1 := by cases t; unfold wt; rfl
theorem wts_nil : wts [] = 0 := by unfold wts; rfl
theorem wts_cons (t : Ty) (ts : List Ty) : wts (t :: ts) = wt t + wts ts := by conv => lhs; unfold wts
theorem wts_append : ∀ (ts us : List Ty), wts (ts ++ us) = wts ts + wts us
  | [], us => by rw [wts_nil]; simp
  | t :: ts, us => by rw [List.cons_append, wts_cons, wts_cons, wts_append ts us]; omega
/-- Type i of some. -/
def tget (ts : List Ty) (i : Nat) : Ty := ts.getD i (.node ⟨0, 0⟩ [])
theorem tget_at {ts : List Ty} {i : Nat} (h : i < ts.length) : ts[i]? = some (tget ts i) := by
  unfold tget
  rw [List.getD_eq_getElem?_getD, List.getElem?_eq_getElem h]
  rfl
theorem tget_mem {ts : List Ty} {i : Nat} (h : i < ts.length) : tget ts i ∈ ts := List.mem_of_getElem? (tget_at h)
theorem wts_mem : ∀ {ts : List Ty} {t : Ty}, t ∈ ts → wt t ≤ wts ts
  | t :: ts, u, h => by
    rw [wts_cons]
    rcases List.mem_cons.1 h with rfl | h
    · omega
    · have := wts_mem h; omega
theorem wts_get {ts : List Ty} {i : Nat} (h : i < ts.length) : wt (tget ts i) ≤ wts ts := wts_mem (tget_mem h)

/-- A type's three cells. -/
def tcells (h : Hd) (p : Option Addr) (l c : Nat) : List Value := [.int .u8 h.k, .int .i64 h.v, .slice p l c]
/-- Its numbers are of their kinds. -/
structure HdOk (h : Hd) : Prop where
  k : 0 ≤ h.k ∧ h.k ≤ 255
  v : -9223372036854775808 ≤ h.v ∧ h.v ≤ 9223372036854775807

/-- A slice's types, and theirs, as memory holds them: nothing is asked of an empty one. -/
inductive Kids (w : World) : Option Addr → List Ty → Prop where
  | nokids (p : Option Addr) : Kids w p []
  | atkids (b o : Nat) (ts : List Ty) (q : Nat → Option Addr) (c : Nat → Nat)
      (hh : ∀ i, i < ts.length → HdOk (tget ts i).h)
      (hc : ∀ i, i < ts.length → ∀ j v, (tcells (tget ts i).h (q i) (tget ts i).ks.length (c i))[j]? = some v → w.cell? ⟨b, o + i * 3 + j, none⟩ = some v)
      (hl : ∀ i, i < ts.length → (tget ts i).ks.length ≤ c i ∧ c i ≤ maxLen)
      (hk : ∀ i, i < ts.length → Kids w (q i) (tget ts i).ks) : Kids w (some ⟨b, o, none⟩) ts

/-- A type by value: its fields, and its kids. -/
structure TyIs (w : World) (h : Hd) (p : Option Addr) (l c : Nat) (t : Ty) : Prop where
  head : t.h = h
  len : t.ks.length = l
  ok : HdOk h
  cap : l ≤ c ∧ c ≤ maxLen
  kids : Kids w p t.ks

theorem Kids.get {w : World} {p : Option Addr} {ts : List Ty} (h : Kids w p ts) (i : Nat) (hi : i < ts.length) :
    ∃ b o q c, p = some ⟨b, o, none⟩ ∧ TyIs w (tget ts i).h q (tget ts i).ks.length c (tget ts i) ∧
      w.cell? ⟨b, o + i * 3, none⟩ = some (.int .u8 (tget ts i).h.k) ∧ w.cell? ⟨b, o + i * 3 + 1, none⟩ = some (.int .i64 (tget ts i).h.v) ∧ w.cell? ⟨b, o + i * 3 + 2, none⟩ = some (.slice q (tget ts i).ks.length c) := by
  cases h with
  | nokids => simp at hi
  | atkids b o _ q c hh hc hl hk =>
    have hci := hc i hi
    exact ⟨b, o, q i, c i, rfl, ⟨rfl, rfl, hh i hi, hl i hi, hk i hi⟩, hci 0 _ rfl, hci 1 _ rfl, hci 2 _ rfl⟩
theorem Kids.stay {w W : World} {p : Option Addr} {ts : List Ty} (h : Kids w p ts) (hb : Below w.heap.size w W) : Kids W p ts := by
  induction h with
  | nokids p => exact .nokids p
  | atkids b o ts q c hh hc hl hk ih =>
    refine .atkids b o ts q c hh (fun i hi j v hv => ?_) hl (fun i hi => ih i hi)
    have h0 := hc i hi j v hv
    exact (hb.cell (p := ⟨b, o + i * 3 + j, none⟩) (World.block_lt_of_cell? w _ h0)).trans h0
theorem TyIs.below {w W : World} {h : Hd} {p : Option Addr} {l c : Nat} {t : Ty} (k : TyIs w h p l c t) (hb : Below w.heap.size w W) : TyIs W h p l c t := ⟨k.head, k.len, k.ok, k.cap, k.kids.stay hb⟩

/-! ### How an argument is seen -/
theorem list3 {α : Type} {l : List α} (h : l.length = 3) : ∃ a b c, l = [a, b, c] := by
  match l, h with
  | [a, b, c], _ => exact ⟨a, b, c, rfl⟩
theorem tyCells : Tryz.prog.cellsOf 37 = 3 := by kernel_rfl
theorem tyFields : ∃ f0 f1 f2 : Field, Tryz.prog.underlying 37 = some (.struct #[f0, f1, f2]) ∧ oneCellFields Tryz.prog #[f0, f1, f2] = true ∧ Tryz.prog.underlying f0.type = some (.int .u8) ∧ Tryz.prog.underlying f1.type = some (.int .i64) ∧ f2.type = 35 :=
  ⟨_, _, _, Tryz.underlying37, by kernel_rfl, by kernel_rfl, by kernel_rfl, by kernel_rfl⟩

section
variable {H : Type} {enc : TypeId × Value → H} {w : World} {base : Nat} {sp : Nat → Bool} {held : Bool}
theorem wf_u8 {n : Int} (h : (Lit.int .u8 n).wf = true) : 0 ≤ n ∧ n ≤ 255 := by
  simp [Lit.wf, IntKind.min, IntKind.max, IntKind.signed, IntKind.bits] at h
  omega
theorem wf_i64 {n : Int} (h : (Lit.int .i64 n).wf = true) : -9223372036854775808 ≤ n ∧ n ≤ 9223372036854775807 := by
  simp [Lit.wf, IntKind.min, IntKind.max, IntKind.signed, IntKind.bits] at h
  omega
theorem open_all : ∀ fuel : Nat,
    (∀ (cs : List Value) (y : DataW H × List MemPlace), DataW.trod enc Tryz.prog w base sp held fuel 37 cs = some y → ∃ h p l c t, cs = tcells h p l c ∧ TyIs w h p l c t) ∧
    (∀ (cs : List Value) (y : DataW H × List MemPlace), DataW.trod enc Tryz.prog w base sp held fuel 35 cs = some y → ∃ p l c ts, cs = [.slice p l c] ∧ ts.length = l ∧ l ≤ c ∧ c ≤ maxLen ∧ Kids w p ts) := by
  intro fuel
  induction fuel using Nat.strongRecOn with
  | _ fuel ih =>
    constructor
    · intro cs y h
      obtain ⟨f0, f1, f2, hu, hone, u0, u1, t2⟩ := tyFields
      obtain ⟨xs, n, hfuel, _, hlen, hxl, hf⟩ := DataW.trod_struct hu h
      rw [tyCells] at hlen
      obtain ⟨c0, c1, c2, rfl⟩ := list3 hlen
      have hxl' : xs.length = 3 := hxl
      obtain ⟨y0, y1, y2, rfl⟩ := list3 hxl'
      obtain ⟨o0, k0⟩ := hone_of hone 0 f0 rfl
      obtain ⟨o1, k1⟩ := hone_of hone 1 f1 rfl
      obtain ⟨o2, k2⟩ := hone_of hone 2 f2 rfl
      have h0 := hf 0 f0 rfl
      have h1 := hf 1 f1 rfl
      have h2 := hf 2 f2 rfl
      rw [o0, k0] at h0; rw [o1, k1] at h1; rw [o2, k2] at h2
      have e0 : DataW.trod enc Tryz.prog w base sp held n f0.type [c0] = some y0 := h0
      have e1 : DataW.trod enc Tryz.prog w base sp held n f1.type [c1] = some y1 := h1
      have e2 : DataW.trod enc Tryz.prog w base sp held n f2.type [c2] = some y2 := h2
      rw [t2] at e2
      obtain ⟨K, r0, _, g0⟩ := DataW.trod_int u0 e0
      obtain ⟨O, r1, _, g1⟩ := DataW.trod_int u1 e1
      injection r0 with r0; injection r1 with r1
      subst r0 r1
      obtain ⟨p, l, c, ts, hcs1, hl, hlc, hcm, hk⟩ := (ih n (by omega)).2 _ _ e2
      injection hcs1 with hcs1
      subst hcs1
      exact ⟨⟨K, O⟩, p, l, c, .node ⟨K, O⟩ ts, rfl, ⟨rfl, hl, ⟨wf_u8 g0, wf_i64 g1⟩, ⟨hlc, hcm⟩, hk⟩⟩
    · intro cs y h
      rcases DataW.trod_slice Tryz.underlying35 h with ⟨rfl, _⟩ | ⟨a, len, cap, elems, rest, n, hfuel, rfl, _, hb, hl, hm, hlen, hel, _, _⟩
      · exact ⟨none, 0, 0, [], rfl, rfl, Nat.le_refl _, by unfold maxLen; omega, Kids.nokids _⟩
      · have each : ∀ i, i < len → ∃ h q l c t, TyIs w h q l c t ∧ ∀ j v, (tcells h q l c)[j]? = some v → w.cell? ((a.add (i * 3)).add j) = some v := by
          intro i hi
          have he := hel i hi
          rw [tyCells, List.getElem?_eq_getElem (by omega)] at he
          obtain ⟨cs', hc, ht⟩ := Option.bind_eq_some_iff.1 he
          obtain ⟨h, q, l, c, t, rfl, hT⟩ := (ih n (by omega)).1 _ _ ht
          obtain ⟨_, _, hcell⟩ := World.cells?_some hc
          refine ⟨h, q, l, c, t, hT, fun j v hv => ?_⟩
          have hj : j < 3 := by
            rcases Nat.lt_or_ge j 3 with h | h
            · exact h
            · rw [List.getElem?_eq_none (by simpa [tcells] using h)] at hv; cases hv
          rw [hcell j hj, hv]
        have each' : ∀ i, ∃ r : Option Addr × Nat × Ty, i < len → TyIs w r.2.2.h r.1 r.2.2.ks.length r.2.1 r.2.2 ∧ ∀ j v, (tcells r.2.2.h r.1 r.2.2.ks.length r.2.1)[j]? = some v → w.cell? ((a.add (i * 3)).add j) = some v := by
          intro i
          by_cases hi : i < len
          · obtain ⟨h, q, l, c, t, hT, hc⟩ := each i hi
            have e1 := hT.head
            have e2 := hT.len
            subst e1 e2
            exact ⟨(q, c, t), fun _ => ⟨hT, hc⟩⟩
          · exact ⟨(none, 0, .node ⟨0, 0⟩ []), fun h => absurd h hi⟩
        obtain ⟨R, hR⟩ := Classical.axiomOfChoice each'
        obtain ⟨F, hFd⟩ : ∃ F : Nat → Ty, F = fun i => (R i).2.2 := ⟨_, rfl⟩
        obtain ⟨Q, hQd⟩ : ∃ Q : Nat → Option Addr, Q = fun i => (R i).1 := ⟨_, rfl⟩
        obtain ⟨C, hCd⟩ : ∃ C : Nat → Nat, C = fun i => (R i).2.1 := ⟨_, rfl⟩
        have hF : ∀ i, i < len → TyIs w (F i).h (Q i) (F i).ks.length (C i) (F i) ∧ ∀ j v, (tcells (F i).h (Q i) (F i).ks.length (C i))[j]? = some v → w.cell? ((a.add (i * 3)).add j) = some v := by
          subst hFd hQd hCd
          exact hR
        have hlen' : ((List.range len).map F).length = len := by simp
        have hget : ∀ i, i < len → tget ((List.range len).map F) i = F i := by
          intro i hi
          unfold tget
          rw [List.getD_eq_getElem?_getD, List.getElem?_map, List.getElem?_range hi]
          rfl
        refine ⟨some a, len, cap, (List.range len).map F, rfl, hlen', hl, hm, ?_⟩
        by_cases h0 : len = 0
        · subst h0; exact .nokids _
        · obtain ⟨b, o, s⟩ := a
          have h1 := (hF 0 (by omega)).2 0 _ rfl
          have hs : s = none := by
            have := World.cell?_spot h1
            simpa [Addr.add] using this
          subst hs
          refine .atkids b o _ Q C (fun i hi => ?_) (fun i hi j v hv => ?_) (fun i hi => ?_) (fun i hi => ?_)
          · rw [hlen'] at hi; rw [hget i hi]; exact (hF i hi).1.ok
          · rw [hlen'] at hi; rw [hget i hi] at hv
            have := (hF i hi).2 j v hv
            rw [Addr.add_lit, Addr.add_lit] at this
            exact this
          · rw [hlen'] at hi; rw [hget i hi]; exact (hF i hi).1.cap
          · rw [hlen'] at hi; rw [hget i hi]; exact (hF i hi).1.kids
end
theorem ret_i64 {a b : Int} (h : a = b) : Ending.returned (.int .i64 a) = .returned (.int .i64 b) := by rw [h]
theorem ret_bool {a b : Bool} (h : a = b) : Ending.returned (.bool a) = .returned (.bool b) := by rw [h]
theorem drop_tget (ts : List Ty) (k : Nat) (h : k < ts.length) : ts.drop k = tget ts k :: ts.drop (k + 1) := by
  rw [List.drop_eq_getElem_cons h]
  have := tget_at h
  rw [List.getElem?_eq_getElem h] at this
  rw [Option.some.inj this]
theorem take_tget (ts : List Ty) (k : Nat) (h : k < ts.length) : ts.take (k + 1) = ts.take k ++ [tget ts k] := by
  rw [List.take_add_one, tget_at h]; rfl
theorem wts_take_le : ∀ (ts : List Ty) (k : Nat), wts (ts.take k) ≤ wts ts
  | [], k => by simp
  | t :: ts, 0 => by rw [List.take_zero, wts_nil]; omega
  | t :: ts, k + 1 => by rw [List.take_succ_cons, wts_cons, wts_cons]; have := wts_take_le ts k; omega

/-! ### Arguments -/
section
variable {H : Type} {enc : TypeId × Value → H} {w : World} {base : Nat} {sp : Nat → Bool} {held : Bool}
end
end Types
end Go.Proofs.YtabegjpledammaaGreatDoor
namespace Go.Proofs.YtabegjpledammaaGreatDoor
open Go.RowKit
set_option linter.unusedVariables false
namespace Types

/-! ### The bound -/
mutual
def leftT : Ty → Int → Int
  | .node h l, n => leftK l (n - 1)
def leftK : List Ty → Int → Int
  | [], n => n
  | t :: ts, n => if n < 0 then n else leftK ts (leftT t n)
end
theorem leftT_eq (t : Ty) (n : Int) : leftT t n = leftK t.ks (n - 1) := by cases t; unfold leftT; rfl
theorem leftK_nil (n : Int) : leftK [] n = n := by unfold leftK; rfl
theorem leftK_cons (t : Ty) (ts : List Ty) (n : Int) : leftK (t :: ts) n = if n < 0 then n else leftK ts (leftT t n) := by conv => lhs; unfold leftK
theorem leftK_neg (ts : List Ty) (n : Int) (h : n < 0) : leftK ts n = n := by
  cases ts with
  | nil => exact leftK_nil n
  | cons t ts => rw [leftK_cons, if_pos h]
theorem leftK_step (ts : List Ty) (k : Nat) (n : Int) (h : k < ts.length) (hn : ¬ n < 0) : leftK (ts.drop k) n = leftK (ts.drop (k + 1)) (leftT (tget ts k) n) := by
  rw [drop_tget ts k h, leftK_cons, if_neg hn]
theorem left_range : ∀ m : Nat, (∀ (t : Ty) (n : Int), wt t ≤ m → 0 ≤ n → -1 ≤ leftT t n ∧ leftT t n ≤ n) ∧ (∀ (ts : List Ty) (n : Int), wts ts ≤ m → -1 ≤ n → -1 ≤ leftK ts n ∧ leftK ts n ≤ n) := by
  intro m
  induction m with
  | zero =>
    refine ⟨fun t n h => by have := wt_pos t; omega, fun ts n h hn => ?_⟩
    cases ts with
    | nil => rw [leftK_nil]; omega
    | cons t ts => rw [wts_cons] at h; have := wt_pos t; omega
  | succ m ih =>
    have hT : ∀ (t : Ty) (n : Int), wt t ≤ m + 1 → 0 ≤ n → -1 ≤ leftT t n ∧ leftT t n ≤ n := by
      intro t n h hn
      rw [wt_ks] at h
      rw [leftT_eq]
      have := ih.2 t.ks (n - 1) (by omega) (by omega)
      omega
    refine ⟨hT, ?_⟩
    intro ts
    induction ts with
    | nil => intro n _ hn; rw [leftK_nil]; omega
    | cons t ts ihs =>
      intro n h hn
      rw [wts_cons] at h
      rw [leftK_cons]
      split
      · omega
      · rename_i h0
        have h1 := hT t n (by omega) (by omega)
        have h2 := ihs (leftT t n) (by omega) (by omega)
        omega
theorem left_small : ∀ m : Nat, (∀ (t : Ty) (n : Int), wt t ≤ m → 0 ≤ n → 0 ≤ leftT t n → leftT t n = n - wt t) ∧ (∀ (ts : List Ty) (n : Int), wts ts ≤ m → 0 ≤ n → 0 ≤ leftK ts n → leftK ts n = n - wts ts) := by
  intro m
  induction m with
  | zero =>
    refine ⟨fun t n h => by have := wt_pos t; omega, fun ts n h hn _ => ?_⟩
    cases ts with
    | nil => rw [leftK_nil, wts_nil]; omega
    | cons t ts => rw [wts_cons] at h; have := wt_pos t; omega
  | succ m ih =>
    have hT : ∀ (t : Ty) (n : Int), wt t ≤ m + 1 → 0 ≤ n → 0 ≤ leftT t n → leftT t n = n - wt t := by
      intro t n h hn h0
      rw [leftT_eq] at h0 ⊢
      by_cases hn1 : n - 1 < 0
      · rw [leftK_neg _ _ hn1] at h0; omega
      · have hk := wt_ks t
        have h1 := ih.2 t.ks (n - 1) (by omega) (by omega) h0
        omega
    refine ⟨hT, ?_⟩
    intro ts
    induction ts with
    | nil => intro n _ hn _; rw [leftK_nil, wts_nil]; omega
    | cons t ts ihs =>
      intro n h hn h0
      rw [wts_cons] at h ⊢
      rw [leftK_cons] at h0 ⊢
      rw [if_neg (by omega)] at h0 ⊢
      by_cases hx : leftT t n < 0
      · rw [leftK_neg _ _ hx] at h0; omega
      · have h1 := hT t n (by omega) hn (by omega)
        have h3 := ihs (leftT t n) (by omega) (by omega) h0
        omega
/-- Is it more than is gone through? -/
def greatB (t : Ty) : Bool := decide (leftT t 400 < 0)
/-- What is not great has 400 nodes at most. -/
theorem small_of {t : Ty} (h : greatB t = false) : wt t ≤ 400 := by
  unfold greatB at h
  have h' := of_decide_eq_false h
  have h1 := (left_small (wt t)).1 t 400 (Nat.le_refl _) (by omega) (by omega)
  omega

/-! ### All nodes -/
section
variable (B : Hd → Nat → Bool)
mutual
/-- Does it hold of each node? -/
def allT : Ty → Bool
  | .node h l => B h l.length && allK l
def allK : List Ty → Bool
  | [] => true
  | t :: ts => allT t && allK ts
end
theorem allT_eq (t : Ty) : allT B t = (B t.h t.ks.length && allK B t.ks) := by cases t; conv => lhs; unfold allT
                                                                               rfl
theorem allK_nil : allK B [] = true := by unfold allK; rfl
theorem allK_cons (t : Ty) (ts : List Ty) : allK B (t :: ts) = (allT B t && allK B ts) := by conv => lhs; unfold allK
theorem allK_step (ts : List Ty) (j : Nat) (h : j < ts.length) : allK B (ts.drop j) = (allT B (tget ts j) && allK B (ts.drop (j + 1))) := by
  rw [drop_tget ts j h, allK_cons]
theorem allK_no {ts : List Ty} {j : Nat} (hj : j < ts.length) (h : B (tget ts j).h (tget ts j).ks.length = false) : allK B (ts.drop j) = false := by
  rw [allK_step B ts j hj, allT_eq, h]; rfl
theorem allK_kno {ts : List Ty} {j : Nat} (hj : j < ts.length) (hk : allK B (tget ts j).ks = false) : allK B (ts.drop j) = false := by
  rw [allK_step B ts j hj, allT_eq, hk]; simp
theorem allK_yes {ts : List Ty} {j : Nat} (hj : j < ts.length) (h : B (tget ts j).h (tget ts j).ks.length = true) (hk : allK B (tget ts j).ks = true) : allK B (ts.drop j) = allK B (ts.drop (j + 1)) := by
  rw [allK_step B ts j hj, allT_eq, h, hk]; rfl
theorem allK_get {ts : List Ty} {j : Nat} (hj : j < ts.length) (h : allK B ts = true) : allT B (tget ts j) = true := by
  induction ts generalizing j with
  | nil => simp at hj
  | cons t ts ih =>
    rw [allK_cons, Bool.and_eq_true] at h
    cases j with
    | zero => exact h.1
    | succ j => exact ih (by simpa using hj) h.2
theorem allK_one (t : Ty) : allK B [t] = allT B t := by rw [allK_cons, allK_nil, Bool.and_true]
end
/-- How many kids a kind has. -/
def kidsN (k : Int) : Int := if k = 1 ∨ k = 5 then 0 else if k = 3 then 1 else if k = 2 ∨ k = 4 then 2 else -1
/-- May a node be, its kids left out? -/
def nodeB (h : Hd) (n : Nat) : Bool := decide ((n : Int) = kidsN h.k ∧ 0 ≤ h.v ∧ (h.v ≤ 0 ∨ h.k = 5))
abbrev mayT : Ty → Bool := allT nodeB
abbrev mayK : List Ty → Bool := allK nodeB
/-! ### Sameness -/
mutual
def sameT : Ty → Ty → Bool
  | .node h l, u => decide (h.k = u.h.k ∧ h.v = u.h.v) && decide (l.length = u.ks.length) && sameK l u.ks
def sameK : List Ty → List Ty → Bool
  | [], _ => true
  | _ :: _, [] => true
  | t :: ts, u :: us => sameT t u && sameK ts us
end
theorem sameT_eq (t u : Ty) : sameT t u = (decide (t.h.k = u.h.k ∧ t.h.v = u.h.v) && decide (t.ks.length = u.ks.length) && sameK t.ks u.ks) := by
  cases t
  conv => lhs; unfold sameT
  rfl
theorem sameK_cons (t u : Ty) (ts us : List Ty) : sameK (t :: ts) (u :: us) = (sameT t u && sameK ts us) := by conv => lhs; unfold sameK
theorem sameK_nil (us : List Ty) : sameK [] us = true := by conv => lhs; unfold sameK
theorem sameK_step (ts us : List Ty) (j : Nat) (h1 : j < ts.length) (h2 : j < us.length) : sameK (ts.drop j) (us.drop j) = (sameT (tget ts j) (tget us j) && sameK (ts.drop (j + 1)) (us.drop (j + 1))) := by
  rw [drop_tget ts j h1, drop_tget us j h2, sameK_cons]
theorem sameK_no {ts us : List Ty} {j : Nat} (h1 : j < ts.length) (h2 : j < us.length) (h : sameT (tget ts j) (tget us j) = false) : sameK (ts.drop j) (us.drop j) = false := by
  rw [sameK_step ts us j h1 h2, h]; rfl
theorem sameK_go {ts us : List Ty} {j : Nat} (h1 : j < ts.length) (h2 : j < us.length) (h : sameT (tget ts j) (tget us j) = true) : sameK (ts.drop j) (us.drop j) = sameK (ts.drop (j + 1)) (us.drop (j + 1)) := by
  rw [sameK_step ts us j h1 h2, h]; rfl
/-- The same is equal. -/
theorem same_eq : ∀ m : Nat, (∀ t u, wt t ≤ m → (sameT t u = true ↔ t = u)) ∧ (∀ ts us : List Ty, wts ts ≤ m → ts.length = us.length → (sameK ts us = true ↔ ts = us)) := by
  intro m
  induction m with
  | zero =>
    refine ⟨fun t u h => by have := wt_pos t; omega, fun ts us h hl => ?_⟩
    cases ts with
    | nil => cases us with
      | nil => rw [sameK_nil]; simp
      | cons u us => simp at hl
    | cons t ts => rw [wts_cons] at h; have := wt_pos t; omega
  | succ m ih =>
    have hT : ∀ t u, wt t ≤ m + 1 → (sameT t u = true ↔ t = u) := by
      intro t u h
      have hk := wt_ks t
      rw [sameT_eq]
      obtain ⟨⟨k, v⟩, l⟩ := t
      obtain ⟨⟨k', v'⟩, l'⟩ := u
      simp only [Ty.h, Ty.ks, Bool.and_eq_true] at hk ⊢
      constructor
      · rintro ⟨⟨h1, hl⟩, hs⟩
        obtain ⟨rfl, rfl⟩ := of_decide_eq_true h1
        have hl := of_decide_eq_true hl
        rw [((ih.2 l l' (by omega) hl).1 hs)]
      · intro e
        injection e with e1 e2
        injection e1 with e3 e4
        subst e2 e3 e4
        exact ⟨⟨decide_eq_true ⟨rfl, rfl⟩, decide_eq_true rfl⟩, (ih.2 l l (by omega) rfl).2 rfl⟩
    refine ⟨hT, fun ts => ?_⟩
    induction ts with
    | nil => intro us _ hl; cases us with
      | nil => rw [sameK_nil]; simp
      | cons u us => simp at hl
    | cons t ts ihs =>
      intro us h hl
      rw [wts_cons] at h
      cases us with
      | nil => simp at hl
      | cons u us =>
        rw [sameK_cons, Bool.and_eq_true, hT t u (by omega), ihs us (by omega) (by simpa using hl)]
        simp
theorem same_iff (t u : Ty) : sameT t u = true ↔ t = u := (same_eq (wt t)).1 t u (Nat.le_refl _)
theorem same_self (t : Ty) : sameT t t = true := (same_iff t t).2 rfl
theorem same_comm (t u : Ty) : sameT t u = sameT u t := by
  cases h : sameT u t
  · rw [Bool.eq_false_iff] at h ⊢
    exact fun e => h ((same_iff u t).2 ((same_iff t u).1 e).symm)
  · exact (same_iff t u).2 ((same_iff u t).1 h).symm

/-! ### Words -/
theorem bytes_ext {s t : ByteArray} (h : s.data.toList = t.data.toList) : s = t := by
  cases s; cases t
  simp at h
  simp [h]
/-- Texts, a blank between them. -/
def jb (ss : List ByteArray) : ByteArray := ⟨(Lib.join (ss.map (·.data.toList)) [32]).toArray⟩
theorem jb_list (ss : List ByteArray) : (jb ss).data.toList = Lib.join (ss.map (·.data.toList)) [32] := by simp [jb]
theorem jb_one (s : ByteArray) : jb [s] = s := by
  apply bytes_ext
  rw [jb_list]
  simp [Lib.join_one]
def bl (s : ByteArray) : List UInt8 := s.data.toList
theorem bl_append (a b : ByteArray) : bl (a ++ b) = bl a ++ bl b := by unfold bl; rw [ByteArray.data_append, Array.toList_append]
theorem bl_inj {a b : ByteArray} (h : bl a = bl b) : a = b := bytes_ext h
theorem join_app (a b : List (List UInt8)) (ha : a ≠ []) (hb : b ≠ []) : Lib.join (a ++ b) [32] = Lib.join a [32] ++ 32 :: Lib.join b [32] := by
  cases a with
  | nil => exact absurd rfl ha
  | cons x r =>
    cases b with
    | nil => exact absurd rfl hb
    | cons y q =>
      rw [List.cons_append, Lib.join_cons, Lib.join_cons, Lib.join_cons]
      unfold Lib.joinTail
      simp [List.append_assoc]
theorem bl_jb (ss : List ByteArray) : bl (jb ss) = Lib.join (ss.map bl) [32] := jb_list ss
theorem bl_app {a b : List ByteArray} (ha : a ≠ []) (hb : b ≠ []) : bl (jb (a ++ b)) = bl (jb a) ++ 32 :: bl (jb b) := by
  rw [bl_jb, bl_jb, bl_jb, List.map_append, join_app _ _ (by simpa using ha) (by simpa using hb)]
theorem bl_cons {x : ByteArray} {b : List ByteArray} (hb : b ≠ []) : bl (jb (x :: b)) = bl x ++ 32 :: bl (jb b) := by
  have := bl_app (a := [x]) (b := b) (by simp) hb
  rw [jb_one] at this
  exact this
theorem bl_one (x : ByteArray) : bl (jb [x]) = bl x := by rw [jb_one]
def wInt : ByteArray := ⟨#[105, 110, 116]⟩
def wOpen : ByteArray := ⟨#[40]⟩
def wShut : ByteArray := ⟨#[41]⟩
def wStar : ByteArray := ⟨#[42]⟩
def wRef : ByteArray := ⟨#[114, 101, 102]⟩
def wArrow : ByteArray := ⟨#[45, 62]⟩
def digs (n : Int) : ByteArray := ⟨(Lib.itoa n).toArray⟩
def wVar (n : Int) : ByteArray := ⟨#[63]⟩ ++ digs n
/-- A kid's words: in brackets, if it is a function's. -/
def tightW (x : Int × List ByteArray) : List ByteArray := if x.1 = 4 then wOpen :: (x.2 ++ [wShut]) else x.2
def kd (ks : List (Int × List ByteArray)) (i : Nat) : Int × List ByteArray := ks.getD i (1, [])
def comb (h : Hd) (ks : List (Int × List ByteArray)) : List ByteArray :=
  if h.k = 1 then [wInt] else if h.k = 2 then wOpen :: ((kd ks 0).2 ++ (wStar :: ((kd ks 1).2 ++ [wShut])))
  else if h.k = 3 then wRef :: tightW (kd ks 0) else if h.k = 4 then tightW (kd ks 0) ++ (wArrow :: (kd ks 1).2) else [wVar h.v]
mutual
/-- A type's words. -/
def wordsT : Ty → List ByteArray
  | .node h l => comb h (wordsK l)
def wordsK : List Ty → List (Int × List ByteArray)
  | [] => []
  | t :: ts => (t.h.k, wordsT t) :: wordsK ts
end
theorem wordsT_eq (t : Ty) : wordsT t = comb t.h (wordsK t.ks) := by cases t; conv => lhs; unfold wordsT
                                                                     rfl
theorem wordsK_nil : wordsK [] = [] := by unfold wordsK; rfl
theorem wordsK_cons (t : Ty) (ts : List Ty) : wordsK (t :: ts) = (t.h.k, wordsT t) :: wordsK ts := by conv => lhs; unfold wordsK
theorem wordsK_map : ∀ ts : List Ty, wordsK ts = ts.map (fun t => (t.h.k, wordsT t))
  | [] => wordsK_nil
  | t :: ts => by rw [wordsK_cons, wordsK_map ts]; rfl
theorem kd_get {ts : List Ty} {i : Nat} (h : i < ts.length) : kd (wordsK ts) i = ((tget ts i).h.k, wordsT (tget ts i)) := by
  unfold kd tget
  rw [wordsK_map, List.getD_eq_getElem?_getD, List.getElem?_map, List.getElem?_eq_getElem h, List.getD_eq_getElem?_getD, List.getElem?_eq_getElem h]
  rfl
/-- What a node that may be is. -/
theorem may_node {t : Ty} (h : mayT t = true) : ((t.h.k = 1 ∨ t.h.k = 5) ∧ t.ks.length = 0 ∨ t.h.k = 3 ∧ t.ks.length = 1 ∨ (t.h.k = 2 ∨ t.h.k = 4) ∧ t.ks.length = 2) ∧ 0 ≤ t.h.v ∧ (t.h.v ≤ 0 ∨ t.h.k = 5) ∧ mayK t.ks = true := by
  change allT nodeB t = true at h
  rw [allT_eq, Bool.and_eq_true] at h
  obtain ⟨h1, h2⟩ := h
  unfold nodeB kidsN at h1
  obtain ⟨h3, h4, h5⟩ := of_decide_eq_true h1
  refine ⟨?_, h4, h5, h2⟩
  split at h3
  · left; omega
  · split at h3
    · right; left; omega
    · split at h3
      · right; right; omega
      · omega
theorem may_kid {t : Ty} (h : mayT t = true) {i : Nat} (hi : i < t.ks.length) : mayT (tget t.ks i) = true := allK_get nodeB hi (may_node h).2.2.2
theorem wt2 {t : Ty} (h : t.ks.length = 2) : wt t = wt (tget t.ks 0) + wt (tget t.ks 1) + 1 := by
  rw [wt_ks]
  match hk : t.ks, h with
  | [a, b], _ => rw [wts_cons, wts_cons, wts_nil]; show _ = wt a + wt b + 1; omega
theorem wt1 {t : Ty} (h : t.ks.length = 1) : wt t = wt (tget t.ks 0) + 1 := by
  rw [wt_ks]
  match hk : t.ks, h with
  | [a], _ => rw [wts_cons, wts_nil]; show _ = wt a + 1; omega
theorem tightW_len (x : Int × List ByteArray) : x.2.length ≤ (tightW x).length ∧ (tightW x).length ≤ x.2.length + 2 := by
  unfold tightW; split <;> simp <;> omega
theorem words_pos : ∀ m : Nat, ∀ t, wt t ≤ m → mayT t = true → 1 ≤ (wordsT t).length ∧ (wordsT t).length ≤ 3 * wt t := by
  intro m
  induction m with
  | zero => intro t h; have := wt_pos t; omega
  | succ m ih =>
    intro t h hm
    obtain ⟨hk, -, -, -⟩ := may_node hm
    rw [wordsT_eq]
    unfold comb
    have hp := wt_pos t
    rcases hk with ⟨hk, hl⟩ | ⟨hk, hl⟩ | ⟨hk, hl⟩
    · rcases hk with hk | hk <;> simp [hk] <;> omega
    · have h0 := ih (tget t.ks 0) (by have := wt1 hl; omega) (may_kid hm (by omega))
      have hw := wt1 hl
      have hq := tightW_len ((tget t.ks 0).h.k, wordsT (tget t.ks 0))
      simp only [hk, kd_get (show 0 < t.ks.length by omega)]
      simp
      simp at hq
      omega
    · have h0 := ih (tget t.ks 0) (by have := wt2 hl; omega) (may_kid hm (by omega))
      have h1 := ih (tget t.ks 1) (by have := wt2 hl; omega) (may_kid hm (by omega))
      have hw := wt2 hl
      have hq := tightW_len ((tget t.ks 0).h.k, wordsT (tget t.ks 0))
      rcases hk with hk | hk
      all_goals
        simp only [hk, kd_get (show 0 < t.ks.length by omega), kd_get (show 1 < t.ks.length by omega)]
        simp
        simp at hq
        omega
theorem words_nil {t : Ty} (h : mayT t = true) : wordsT t ≠ [] := by
  have := (words_pos _ t (Nat.le_refl _) h).1
  intro e
  rw [e] at this
  simp at this
end Types
end Go.Proofs.YtabegjpledammaaGreatDoor
