/-Types with regions, and how memory holds them. The document's: is it an atom, is it in a row. The document's: which is ahead; an atom is put to its place. The document's put and Of. How an argument that is a slice of numbers, or of texts, is seen by a walk: of no program. Rows of numbers. Terms with regions, and how memory holds them. Swap: the program's and the document's. Without some regions; without some exceptions. Exceptions of rows; is a number in a row; the walk of EffectParts. The regions of rows of atoms, as the program tells them. -/
import Derived.Test.YtolpdhkgkjnbfaaGreatDoorGC04
import Derived.WalkKit
import Derived.Below
import Derived.Deep.Slices
import Derived.Deep.Fields
import Derived.LoopTactic
import Derived.Outline
import Derived.Lib.Hide
import Derived.IntWalk
import Derived.Shelf.RegionOpenPlain
import Derived.Deep.LoopGhost
import Derived.Test.YtolpdhkgkjnbfaaGreatDoorGC00
import Derived.SliceStrings
import Derived.ChangeSlices
import Derived.Deep.MidRow
import Derived.Laws.Rows
import Derived.Sort.OwnSortedInts
namespace Go.Proofs.YtolpdhkgkjnbfaaGreatDoor
open Go.RowKit Go.ChangeShapes Go.WideShapes Go.Deep
set_option linter.unusedVariables false
namespace Rt
open Effect (At AtOk AtsAt Rd)

/-- A node's own fields. -/
structure Hd where
  k : Int
  r : Int
  e : List At
inductive RT where
  | node : Hd → List RT → RT
def RT.h : RT → Hd
  | .node h _ => h
def RT.ks : RT → List RT
  | .node _ l => l
mutual
/-- How many nodes. -/
def wt : RT → Nat
  | .node _ l => wts l + 1
def wts : List RT → Nat
  | [] => 0
  | t :: ts => wt t + wts ts
end
theorem wt_pos (t : RT) : 0 < wt t := by cases t; unfold wt; omega
theorem wt_ks (t : RT) : wt t = wts t.ks + 1 := by cases t; unfold wt; rfl
theorem wts_nil : wts [] = 0 := by unfold wts; rfl
theorem wts_cons (t : RT) (ts : List RT) : wts (t :: ts) = wt t + wts ts := by conv => lhs; unfold wts
theorem wts_append : ∀ (ts us : List RT), wts (ts ++ us) = wts ts + wts us
  | [], us => by rw [wts_nil]; simp
  | t :: ts, us => by rw [List.cons_append, wts_cons, wts_cons, wts_append ts us]; omega
/-- Type i of some. -/
def tget (ts : List RT) (i : Nat) : RT := ts.getD i (.node ⟨0, 0, []⟩ [])
theorem tget_at {ts : List RT} {i : Nat} (h : i < ts.length) : ts[i]? = some (tget ts i) := by
  unfold tget
  rw [List.getD_eq_getElem?_getD, List.getElem?_eq_getElem h]
  rfl
theorem tget_mem {ts : List RT} {i : Nat} (h : i < ts.length) : tget ts i ∈ ts := List.mem_of_getElem? (tget_at h)
theorem wts_mem : ∀ {ts : List RT} {t : RT}, t ∈ ts → wt t ≤ wts ts
  | t :: ts, u, h => by
    rw [wts_cons]
    rcases List.mem_cons.1 h with rfl | h
    · omega
    · have := wts_mem h; omega
theorem wts_get {ts : List RT} {i : Nat} (h : i < ts.length) : wt (tget ts i) ≤ wts ts := wts_mem (tget_mem h)

/-- A type's four cells. -/
def rcells (h : Hd) (pe : Option Addr) (ne ce : Nat) (p : Option Addr) (l c : Nat) : List Value := [.int .u8 h.k, .int .i64 h.r, .slice pe ne ce, .slice p l c]
/-- Its numbers are of their kinds, its texts not too long. -/
structure HdOk (h : Hd) : Prop where
  k : 0 ≤ h.k ∧ h.k ≤ 255
  r : -9223372036854775808 ≤ h.r ∧ h.r ≤ 9223372036854775807
  e : ∀ x ∈ h.e, AtOk x
/-- Its effect, as memory holds it. -/
structure EffIs (w : World) (pe : Option Addr) (ne ce : Nat) (l : List At) : Prop where
  rd : Rd w ne pe l
  cap : ne ≤ ce ∧ ce ≤ maxLen
theorem EffIs.below {w W : World} {pe : Option Addr} {ne ce : Nat} {l : List At} (h : EffIs w pe ne ce l) (hb : Below w.heap.size w W) : EffIs W pe ne ce l := ⟨h.rd.below hb, h.cap⟩

/-- A slice's types, and theirs, as memory holds them: nothing is asked of an empty one. -/
inductive Kids (w : World) : Option Addr → List RT → Prop where
  | nokids (p : Option Addr) : Kids w p []
  | atkids (b o : Nat) (ts : List RT) (q : Nat → Option Addr) (c : Nat → Nat) (qe : Nat → Option Addr) (ce : Nat → Nat)
      (hh : ∀ i, i < ts.length → HdOk (tget ts i).h)
      (hc : ∀ i, i < ts.length → ∀ j v, (rcells (tget ts i).h (qe i) (tget ts i).h.e.length (ce i) (q i) (tget ts i).ks.length (c i))[j]? = some v → w.cell? ⟨b, o + i * 4 + j, none⟩ = some v)
      (hl : ∀ i, i < ts.length → (tget ts i).ks.length ≤ c i ∧ c i ≤ maxLen)
      (he : ∀ i, i < ts.length → EffIs w (qe i) (tget ts i).h.e.length (ce i) (tget ts i).h.e)
      (hk : ∀ i, i < ts.length → Kids w (q i) (tget ts i).ks) : Kids w (some ⟨b, o, none⟩) ts

/-- A type by value: its fields, its effect, and its kids. -/
structure RtIs (w : World) (h : Hd) (pe : Option Addr) (ne ce : Nat) (p : Option Addr) (l c : Nat) (t : RT) : Prop where
  head : t.h = h
  elen : h.e.length = ne
  len : t.ks.length = l
  ok : HdOk h
  eff : EffIs w pe ne ce h.e
  cap : l ≤ c ∧ c ≤ maxLen
  kids : Kids w p t.ks

theorem Kids.get {w : World} {p : Option Addr} {ts : List RT} (h : Kids w p ts) (i : Nat) (hi : i < ts.length) :
    ∃ b o q c qe ce, p = some ⟨b, o, none⟩ ∧ RtIs w (tget ts i).h qe (tget ts i).h.e.length ce q (tget ts i).ks.length c (tget ts i) ∧
      w.cell? ⟨b, o + i * 4, none⟩ = some (.int .u8 (tget ts i).h.k) ∧ w.cell? ⟨b, o + i * 4 + 1, none⟩ = some (.int .i64 (tget ts i).h.r) ∧ w.cell? ⟨b, o + i * 4 + 2, none⟩ = some (.slice qe (tget ts i).h.e.length ce) ∧ w.cell? ⟨b, o + i * 4 + 3, none⟩ = some (.slice q (tget ts i).ks.length c) := by
  cases h with
  | nokids => simp at hi
  | atkids b o _ q c qe ce hh hc hl he hk =>
    have hci := hc i hi
    exact ⟨b, o, q i, c i, qe i, ce i, rfl, ⟨rfl, rfl, rfl, hh i hi, he i hi, hl i hi, hk i hi⟩, hci 0 _ rfl, hci 1 _ rfl, hci 2 _ rfl, hci 3 _ rfl⟩
theorem Kids.stay {w W : World} {p : Option Addr} {ts : List RT} (h : Kids w p ts) (hb : Below w.heap.size w W) : Kids W p ts := by
  induction h with
  | nokids p => exact .nokids p
  | atkids b o ts q c qe ce hh hc hl he hk ih =>
    refine .atkids b o ts q c qe ce hh (fun i hi j v hv => ?_) hl (fun i hi => (he i hi).below hb) (fun i hi => ih i hi)
    have h0 := hc i hi j v hv
    exact (hb.cell (p := ⟨b, o + i * 4 + j, none⟩) (World.block_lt_of_cell? w _ h0)).trans h0
theorem RtIs.below {w W : World} {h : Hd} {pe : Option Addr} {ne ce : Nat} {p : Option Addr} {l c : Nat} {t : RT} (k : RtIs w h pe ne ce p l c t) (hb : Below w.heap.size w W) : RtIs W h pe ne ce p l c t := ⟨k.head, k.elen, k.len, k.ok, k.eff.below hb, k.cap, k.kids.stay hb⟩
/-! ### How an argument is seen -/
theorem list4 {α : Type} {l : List α} (h : l.length = 4) : ∃ a b c d, l = [a, b, c, d] := by
  match l, h with
  | [a, b, c, d], _ => exact ⟨a, b, c, d, rfl⟩
theorem rtCells : Tryz.prog.cellsOf 28 = 4 := by kernel_rfl
theorem rtFields : ∃ f0 f1 f2 f3 : Field, Tryz.prog.underlying 28 = some (.struct #[f0, f1, f2, f3]) ∧ oneCellFields Tryz.prog #[f0, f1, f2, f3] = true ∧ Tryz.prog.underlying f0.type = some (.int .u8) ∧ Tryz.prog.underlying f1.type = some (.int .i64) ∧ f2.type = 25 ∧ f3.type = 26 :=
  ⟨_, _, _, _, Tryz.underlying28, by kernel_rfl, by kernel_rfl, by kernel_rfl, by kernel_rfl, by kernel_rfl⟩

section
variable {H : Type} {enc : TypeId × Value → H} {w : World} {base : Nat} {sp : Nat → Bool} {held : Bool}
theorem open_all : ∀ fuel : Nat,
    (∀ (cs : List Value) (y : DataW H × List MemPlace), DataW.trod enc Tryz.prog w base sp held fuel 28 cs = some y → ∃ h pe ne ce p l c t, cs = rcells h pe ne ce p l c ∧ RtIs w h pe ne ce p l c t) ∧
    (∀ (cs : List Value) (y : DataW H × List MemPlace), DataW.trod enc Tryz.prog w base sp held fuel 26 cs = some y → ∃ p l c ts, cs = [.slice p l c] ∧ ts.length = l ∧ l ≤ c ∧ c ≤ maxLen ∧ Kids w p ts) := by
  intro fuel
  induction fuel using Nat.strongRecOn with
  | _ fuel ih =>
    constructor
    · intro cs y h
      obtain ⟨f0, f1, f2, f3, hu, hone, u0, u1, t2, t3⟩ := rtFields
      obtain ⟨xs, n, hfuel, _, hlen, hxl, hf⟩ := DataW.trod_struct hu h
      rw [rtCells] at hlen
      obtain ⟨c0, c1, c2, c3, rfl⟩ := list4 hlen
      have hxl' : xs.length = 4 := hxl
      obtain ⟨y0, y1, y2, y3, rfl⟩ := list4 hxl'
      obtain ⟨o0, k0⟩ := hone_of hone 0 f0 rfl
      obtain ⟨o1, k1⟩ := hone_of hone 1 f1 rfl
      obtain ⟨o2, k2⟩ := hone_of hone 2 f2 rfl
      obtain ⟨o3, k3⟩ := hone_of hone 3 f3 rfl
      have h0 := hf 0 f0 rfl
      have h1 := hf 1 f1 rfl
      have h2 := hf 2 f2 rfl
      have h3 := hf 3 f3 rfl
      rw [o0, k0] at h0; rw [o1, k1] at h1; rw [o2, k2] at h2; rw [o3, k3] at h3
      have e0 : DataW.trod enc Tryz.prog w base sp held n f0.type [c0] = some y0 := h0
      have e1 : DataW.trod enc Tryz.prog w base sp held n f1.type [c1] = some y1 := h1
      have e2 : DataW.trod enc Tryz.prog w base sp held n f2.type [c2] = some y2 := h2
      have e3 : DataW.trod enc Tryz.prog w base sp held n f3.type [c3] = some y3 := h3
      rw [t2] at e2
      rw [t3] at e3
      obtain ⟨K, r0, _, g0⟩ := DataW.trod_int u0 e0
      obtain ⟨O, r1, _, g1⟩ := DataW.trod_int u1 e1
      injection r0 with r0; injection r1 with r1
      subst r0 r1
      obtain ⟨pe, ne, ce, es, hcs2, hes, hcap⟩ := Effect.open_row2 e2
      injection hcs2 with hcs2
      subst hcs2
      obtain ⟨p, l, c, ts, hcs1, hl, hlc, hcm, hk⟩ := (ih n (by omega)).2 _ _ e3
      injection hcs1 with hcs1
      subst hcs1
      exact ⟨⟨K, O, es⟩, pe, ne, ce, p, l, c, .node ⟨K, O, es⟩ ts, rfl, ⟨rfl, hes.1, hl, ⟨Effect.wf_u8 g0, Effect.wf_i64 g1, hes.2.2.2⟩, ⟨hes.rd, hcap⟩, ⟨hlc, hcm⟩, hk⟩⟩
    · intro cs y h
      rcases DataW.trod_slice Tryz.underlying26 h with ⟨rfl, _⟩ | ⟨a, len, cap, elems, rest, n, hfuel, rfl, _, hb, hl, hm, hlen, hel, _, _⟩
      · exact ⟨none, 0, 0, [], rfl, rfl, Nat.le_refl _, by unfold maxLen; omega, Kids.nokids _⟩
      · have each : ∀ i, i < len → ∃ h pe ne ce q l c t, RtIs w h pe ne ce q l c t ∧ ∀ j v, (rcells h pe ne ce q l c)[j]? = some v → w.cell? ((a.add (i * 4)).add j) = some v := by
          intro i hi
          have he := hel i hi
          rw [rtCells, List.getElem?_eq_getElem (by omega)] at he
          obtain ⟨cs', hc, ht⟩ := Option.bind_eq_some_iff.1 he
          obtain ⟨h, pe, ne, ce, q, l, c, t, rfl, hT⟩ := (ih n (by omega)).1 _ _ ht
          obtain ⟨_, _, hcell⟩ := World.cells?_some hc
          refine ⟨h, pe, ne, ce, q, l, c, t, hT, fun j v hv => ?_⟩
          have hj : j < 4 := by
            rcases Nat.lt_or_ge j 4 with h | h
            · exact h
            · rw [List.getElem?_eq_none (by simpa [rcells] using h)] at hv; cases hv
          rw [hcell j hj, hv]
        have each' : ∀ i, ∃ r : Option Addr × Nat × Option Addr × Nat × RT, i < len → RtIs w r.2.2.2.2.h r.2.2.1 r.2.2.2.2.h.e.length r.2.2.2.1 r.1 r.2.2.2.2.ks.length r.2.1 r.2.2.2.2 ∧ ∀ j v, (rcells r.2.2.2.2.h r.2.2.1 r.2.2.2.2.h.e.length r.2.2.2.1 r.1 r.2.2.2.2.ks.length r.2.1)[j]? = some v → w.cell? ((a.add (i * 4)).add j) = some v := by
          intro i
          by_cases hi : i < len
          · obtain ⟨h, pe, ne, ce, q, l, c, t, hT, hc⟩ := each i hi
            have e1 := hT.head
            have e2 := hT.len
            have e3 := hT.elen
            subst e1 e2 e3
            exact ⟨(q, c, pe, ce, t), fun _ => ⟨hT, hc⟩⟩
          · exact ⟨(none, 0, none, 0, .node ⟨0, 0, []⟩ []), fun h => absurd h hi⟩
        obtain ⟨R, hR⟩ := Classical.axiomOfChoice each'
        obtain ⟨F, hFd⟩ : ∃ F : Nat → RT, F = fun i => (R i).2.2.2.2 := ⟨_, rfl⟩
        obtain ⟨Q, hQd⟩ : ∃ Q : Nat → Option Addr, Q = fun i => (R i).1 := ⟨_, rfl⟩
        obtain ⟨C, hCd⟩ : ∃ C : Nat → Nat, C = fun i => (R i).2.1 := ⟨_, rfl⟩
        obtain ⟨QE, hQEd⟩ : ∃ Q : Nat → Option Addr, Q = fun i => (R i).2.2.1 := ⟨_, rfl⟩
        obtain ⟨CE, hCEd⟩ : ∃ C : Nat → Nat, C = fun i => (R i).2.2.2.1 := ⟨_, rfl⟩
        have hF : ∀ i, i < len → RtIs w (F i).h (QE i) (F i).h.e.length (CE i) (Q i) (F i).ks.length (C i) (F i) ∧ ∀ j v, (rcells (F i).h (QE i) (F i).h.e.length (CE i) (Q i) (F i).ks.length (C i))[j]? = some v → w.cell? ((a.add (i * 4)).add j) = some v := by
          subst hFd hQd hCd hQEd hCEd
          exact hR
        have hlen' : ((List.range len).map F).length = len := by simp
        have hget : ∀ i, i < len → tget ((List.range len).map F) i = F i := by
          intro i hi
          unfold tget
          rw [List.getD_eq_getElem?_getD, List.getElem?_map, List.getElem?_range hi]
          rfl
        refine ⟨some a, len, cap, (List.range len).map F, rfl, hlen', hl, hm, ?_⟩
        by_cases h0 : len = 0
        · subst h0; exact .nokids _
        · obtain ⟨b, o, s⟩ := a
          have h1 := (hF 0 (by omega)).2 0 _ rfl
          have hs : s = none := by
            have := World.cell?_spot h1
            simpa [Addr.add] using this
          subst hs
          refine .atkids b o _ Q C QE CE (fun i hi => ?_) (fun i hi j v hv => ?_) (fun i hi => ?_) (fun i hi => ?_) (fun i hi => ?_)
          · rw [hlen'] at hi; rw [hget i hi]; exact (hF i hi).1.ok
          · rw [hlen'] at hi; rw [hget i hi] at hv
            have := (hF i hi).2 j v hv
            rw [Addr.add_lit, Addr.add_lit] at this
            exact this
          · rw [hlen'] at hi; rw [hget i hi]; exact (hF i hi).1.cap
          · rw [hlen'] at hi; rw [hget i hi]; exact (hF i hi).1.eff
          · rw [hlen'] at hi; rw [hget i hi]; exact (hF i hi).1.kids
end
theorem drop_tget (ts : List RT) (k : Nat) (h : k < ts.length) : ts.drop k = tget ts k :: ts.drop (k + 1) := by
  rw [List.drop_eq_getElem_cons h]
  have := tget_at h
  rw [List.getElem?_eq_getElem h] at this
  rw [Option.some.inj this]
theorem take_tget (ts : List RT) (k : Nat) (h : k < ts.length) : ts.take (k + 1) = ts.take k ++ [tget ts k] := by
  rw [List.take_add_one, tget_at h]; rfl
theorem wts_take_le : ∀ (ts : List RT) (k : Nat), wts (ts.take k) ≤ wts ts
  | [], k => by simp
  | t :: ts, 0 => by rw [List.take_zero, wts_nil]; omega
  | t :: ts, k + 1 => by rw [List.take_succ_cons, wts_cons, wts_cons]; have := wts_take_le ts k; omega
theorem wts_drop (ts : List RT) (j : Nat) (h : j < ts.length) : wts (ts.drop j) = wt (tget ts j) + wts (ts.drop (j + 1)) := by
  rw [drop_tget ts j h, wts_cons]

/-! ### Arguments -/
section
variable {H : Type} {enc : TypeId × Value → H} {w : World} {base : Nat} {sp : Nat → Bool} {held : Bool}
end
end Rt
end Go.Proofs.YtolpdhkgkjnbfaaGreatDoor
namespace Go.Proofs.YtolpdhkgkjnbfaaGreatDoor
open Go.RowKit
set_option linter.unusedVariables false
set_option linter.unusedSimpArgs false
namespace Effect

set_option maxHeartbeats 3200000 in
theorem refAtom_walk (a : At) (w : World) (hx : a.x.size ≤ maxLen) : Calls Tryz.prog 46 #[.agg #[.int .u8 a.k, .int .i64 a.r, .string a.x]] w fun e w' => e = .returned (.bool (atomB a)) ∧ Below w.heap.size w w' := by
  have hat : ∀ b, atomB a = b → atomB a = b := fun b h => h
  have hdef : atomB a = atomB a := rfl
  have HB := Lib.hid (fun O => al_new (W := w) O)
  by_cases h3 : a.k = 3
  · by_cases hr : a.r = 0
    · have ha : Words.exnB a.x = atomB a := by unfold atomB; rw [if_pos h3, hr]; simp
      have hex := fun W => Words.refExn_walk a.x W hx
      obtain ⟨k, r, x⟩ := a
      simp only at h3 hr ha hex
      subst h3 hr
      have HE := Lib.hid hex; have HA := Lib.hid ha
      clear hex hat hdef hx ha
      go_enter Tryz.func46, Tryz.ntmps46
      go_wp2_with (fail)
      refine (HE.out _).mono ?_
      rintro e w1 ⟨rfl, hb1⟩
      have H1 := Lib.hid (below_then (HB.out _) hb1 (by simp))
      clear hb1
      go_wp2_with (fail)
      go_ret
      exact ⟨ret_bool HA.out, H1.out⟩
    · have ha : false = atomB a := by unfold atomB; rw [if_pos h3, decide_eq_false hr]; simp
      obtain ⟨k, r, x⟩ := a
      simp only at h3 hr ha
      subst h3
      have hr1 : (r == 0) = false := by simpa using hr
      have HA := Lib.hid ha
      clear hat hdef hx ha hr
      go_enter Tryz.func46, Tryz.ntmps46
      go_wp2_with (fail)
      go_ret
      exact ⟨ret_bool HA.out, HB.out _⟩
  · by_cases h12 : a.k = 1 ∨ a.k = 2
    · by_cases hr : a.r < 0
      · have ha : false = atomB a := by unfold atomB; rw [if_neg h3, decide_eq_false (show ¬ 0 ≤ a.r by omega)]; simp
        obtain ⟨k, r, x⟩ := a
        simp only at h12 hr ha
        have HA := Lib.hid ha
        clear hat hdef hx ha h3
        rcases h12 with rfl | rfl
        all_goals
          go_enter Tryz.func46, Tryz.ntmps46
          go_wp2_with (fail)
          go_ret
          exact ⟨ret_bool HA.out, HB.out _⟩
      · have ha : a.x.toList.isEmpty = atomB a := by unfold atomB; rw [if_neg h3, ← emp a.x, decide_eq_true (show 0 ≤ a.r by omega)]; rcases h12 with h | h <;> rw [h] <;> simp
        obtain ⟨k, r, x⟩ := a
        simp only at h12 hr ha
        have HA := Lib.hid ha
        clear hat hdef hx ha h3
        rcases h12 with rfl | rfl
        all_goals
          go_enter Tryz.func46, Tryz.ntmps46
          go_wp2_with (fail)
          go_ret
          exact ⟨ret_bool HA.out, HB.out _⟩
    · have ha : false = atomB a := by unfold atomB; rw [if_neg h3, decide_eq_false (show ¬ a.k = 1 by omega), decide_eq_false (show ¬ a.k = 2 by omega)]; rfl
      obtain ⟨k, r, x⟩ := a
      simp only at h12 h3 ha
      have h1' : (k == 1) = false := by simp; omega
      have h2' : (k == 2) = false := by simp; omega
      have h3' : (k == 3) = false := by simp; omega
      have HA := Lib.hid ha
      clear hat hdef hx ha h3 h12
      go_enter Tryz.func46, Tryz.ntmps46
      go_wp2_with (fail)
      go_ret
      exact ⟨ret_bool HA.out, HB.out _⟩
theorem below_q {B : Nat} {w W : World} (h : Below B w W) : Below B w W.drew := ⟨h.os, h.tape, h.output, h.size, h.block⟩
set_option maxRecDepth 100000 in
set_option maxHeartbeats 6400000 in
theorem in_walk {n c : Nat} {a : Option Addr} {l : List At} {w : World} (h : Rd w n a l) (x : At) (hn : n ≤ 100000) : Calls Tryz.prog 47 #[.slice a n c, .agg #[.int .u8 x.k, .int .i64 x.r, .string x.x]] w fun e w' => e = .returned (.bool (decide (x ∈ l))) ∧ Below w.heap.size w w' := by
  have mixed : Tryz.prog.follows .mixedOrders = true := by kernel_rfl
  have HEQ := Lib.hid eqIn
  have HGD := Lib.hid (show ∀ (op : BinOp) (u v : Operand) (a b : At) (w : World), (eqGuard op 58 u v (.agg #[.int .u8 a.k, .int .i64 a.r, .string a.x]) (.agg #[.int .u8 b.k, .int .i64 b.r, .string b.x])).run Tryz.prog w = .ok () w from fun op u v a b w => eqAt.2 op u v a b w)
  have H := Lib.hid h
  have HB := Lib.hid (fun O => al_new (W := w) O)
  clear h
  go_enter Tryz.func47, Tryz.ntmps47
  go_wp2_with (fail)
  have HN := Lib.hid fun O => heap_alloc_new w O
  go_loopg [5, 8] n (fun gh _ i wr => ∃ j q : Nat, j ≤ n ∧ n - j ≤ gh ∧ i = .int .i64 (j : Int) ∧ wr = (w.alloc (.cells #[.int .u8 x.k, .int .i64 x.r, .string x.x] 58)).drewN q ∧ Hid (x ∉ l.take j))
  case atStart => exact ⟨0, 0, Nat.zero_le _, by omega, rfl, rfl, Lib.hid (by simp)⟩
  case round =>
    obtain ⟨j, q, hj, hgh, rfl, rfl, HA⟩ := hrel
    have hbb : ∀ O : Obj, Below w.heap.size w ((w.alloc O).drewN q) := fun O => ⟨rfl, rfl, rfl, (al_new O).size, (al_new O).block⟩
    have HBB := Lib.hid hbb
    clear hbb
    by_cases hlt : j < n
    · have hjl : j < l.length := by rw [H.out.len]; exact hlt
      obtain ⟨b, o, rfl, a0, a1, a2⟩ := (H.out.at_.below (al_new (.cells #[.int .u8 x.k, .int .i64 x.r, .string x.x] 58))).get j hjl
      obtain ⟨⟨b0, b1, b2⟩, -, -⟩ := c3 (HN.out (.cells #[.int .u8 x.k, .int .i64 x.r, .string x.x] 58))
      have htk := at_take l j hjl
      have hmem := aget_mem hjl
      generalize aget l j = y at *
      have HTK := Lib.hid htk; have HMEM := Lib.hid hmem
      have hgd := HGD.out
      have hq := HEQ.out y x
      simp only [enc] at hq
      clear htk hmem hjl
      by_cases he : y = x
      · have hd : decide (y = x) = true := decide_eq_true he
        rw [hd] at hq
        have HD := Lib.hid he
        clear hd he
        go_wp2_with (fail)
        go_region_o
        clear hgd hq a0 a1 a2 b0 b1 b2
        go_wp2_with (fail)
        go_ret
        exact ⟨ret_bool (decide_eq_true (by rw [← HD.out]; exact HMEM.out)).symm, below_q (HBB.out _)⟩
      · have hd : decide (y = x) = false := decide_eq_false he
        rw [hd] at hq
        have HD := Lib.hid he
        clear hd he
        go_wp2_with (fail)
        go_region_o
        clear hgd hq a0 a1 a2 b0 b1 b2
        go_wp2_with (fail)
        go_roundg (n - (j + 1))
        case measure => omega
        case rel => exact ⟨j + 1, q + 1, by omega, by omega, by go_num, rfl, Lib.hid (by rw [HTK.out]; simp only [List.mem_append, List.mem_singleton, not_or]; exact ⟨HA.out, fun e => HD.out e.symm⟩)⟩
    · obtain rfl : j = n := by omega
      have hno : x ∉ l := by
        have := HA.out
        rw [List.take_of_length_le (by rw [H.out.len]; exact Nat.le_refl _)] at this
        exact this
      have HNO := Lib.hid hno
      clear hno
      go_wp2_with (fail)
      go_ret
      exact ⟨ret_bool (decide_eq_false HNO.out).symm, HBB.out _⟩
end Effect
end Go.Proofs.YtolpdhkgkjnbfaaGreatDoor
namespace Go.Proofs.YtolpdhkgkjnbfaaGreatDoor
open Go.RowKit
set_option linter.unusedVariables false
set_option linter.unusedSimpArgs false
namespace Effect

/-! ### Mathematics -/
/-- What put has made of the first ones. -/
def InsAt (x : At) (d : Bool) (l o : List At) : Prop := (d = false ∧ o = l ∧ ∀ y ∈ l, lessA x y = false) ∨ (d = true ∧ o = insA x l ∧ ∃ y ∈ l, lessA x y = true)
theorem InsAt.len {x : At} {d : Bool} {l o : List At} (h : InsAt x d l o) : o.length ≤ l.length + 1 := by
  rcases h with ⟨_, rfl, _⟩ | ⟨_, rfl, _⟩
  · omega
  · have h3 : ∀ y : List At, (insA x y).length = y.length + 1 := fun y => by
      induction y with
      | nil => rfl
      | cons z y ih2 => unfold insA; split <;> simp [ih2]
    rw [h3]; exact Nat.le_refl _
/-! ### Less -/
set_option maxHeartbeats 3200000 in
theorem less_walk (a b : At) (w : World) : Calls Tryz.prog 64 #[.agg #[.int .u8 a.k, .int .i64 a.r, .string a.x], .agg #[.int .u8 b.k, .int .i64 b.r, .string b.x]] w fun e w' => e = .returned (.bool (lessA a b)) ∧ Below w.heap.size w w' := by
  have hb2 : ∀ O O', Below w.heap.size w ((w.alloc O).alloc O') := fun O O' => (al_new O).alloc (by simp) O'
  have HB := Lib.hid hb2
  have hbx := fun O O' => at_more (w := w.alloc O) (o := O) (o' := O') (N := w.heap.size) (at_new rfl)
  clear hb2
  by_cases hk : a.k = b.k
  · by_cases hr : a.r = b.r
    · have hl : Op.bytesLess a.x.toList b.x.toList = lessA a b := by unfold lessA; rw [if_pos hk, if_pos hr]; rfl
      obtain ⟨k, r, x⟩ := a
      obtain ⟨k', r', x'⟩ := b
      simp only at hk hr hl
      subst hk hr
      have hk0 : (k == k) = true := by simp
      have hr0 : (r == r) = true := by simp
      have HL := Lib.hid hl
      clear hl
      go_enter Tryz.func64, Tryz.ntmps64
      go_wp2_with (fail)
      go_ret
      exact ⟨ret_bool HL.out, HB.out _ _⟩
    · have hl : decide (a.r < b.r) = lessA a b := by unfold lessA; rw [if_pos hk, if_neg hr]
      obtain ⟨k, r, x⟩ := a
      obtain ⟨k', r', x'⟩ := b
      simp only at hk hr hl
      subst hk
      have hk0 : (k == k) = true := by simp
      have hr0 : (r == r') = false := by simpa using hr
      have HL := Lib.hid hl
      clear hl hr
      go_enter Tryz.func64, Tryz.ntmps64
      go_wp2_with (fail)
      go_ret
      exact ⟨ret_bool HL.out, HB.out _ _⟩
  · have hl : decide (a.k < b.k) = lessA a b := by unfold lessA; rw [if_neg hk]
    obtain ⟨k, r, x⟩ := a
    obtain ⟨k', r', x'⟩ := b
    simp only at hk hl
    have hk0 : (k == k') = false := by simpa using hk
    have HL := Lib.hid hl
    clear hl hk
    go_enter Tryz.func64, Tryz.ntmps64
    go_wp2_with (fail)
    go_ret
    exact ⟨ret_bool HL.out, HB.out _ _⟩
end Effect
end Go.Proofs.YtolpdhkgkjnbfaaGreatDoor
namespace Go.Proofs.YtolpdhkgkjnbfaaGreatDoor
open Go.RowKit
set_option linter.unusedVariables false
set_option linter.unusedSimpArgs false
namespace Effect

theorem row_new {B : Nat} {w : World} (hB : B ≤ w.heap.size) : Row B (w.alloc (.cells #[] 58)) (.slice (some ⟨w.heap.size, 0, none⟩) 0 0) [] :=
  ⟨rfl, .inr ⟨w.heap.size, 0, #[], rfl, hB, heap_alloc_new w _, Nat.le_refl _, by unfold maxLen; omega, rfl, rfl⟩⟩
theorem cells_stay {W V : World} {b o : Nat} {x : At} (h : W.cell? ⟨b, o, none⟩ = some (.int .u8 x.k) ∧ W.cell? ⟨b, o + 1, none⟩ = some (.int .i64 x.r) ∧ W.cell? ⟨b, o + 2, none⟩ = some (.string x.x)) (hb : V.heap[b]? = W.heap[b]?) : V.cell? ⟨b, o, none⟩ = some (.int .u8 x.k) ∧ V.cell? ⟨b, o + 1, none⟩ = some (.int .i64 x.r) ∧ V.cell? ⟨b, o + 2, none⟩ = some (.string x.x) :=
  ⟨(World.cell?_of_block hb).trans h.1, (World.cell?_of_block hb).trans h.2.1, (World.cell?_of_block hb).trans h.2.2⟩
theorem w2cells {W : World} {b o : Nat} {l : List At} (h : AtsAt W (some ⟨b, o, none⟩) l) (j : Nat) (hj : j < l.length) : W.cell? ⟨b, o + j * 3, none⟩ = some (.int .u8 (aget l j).k) ∧ W.cell? ⟨b, o + j * 3 + 1, none⟩ = some (.int .i64 (aget l j).r) ∧ W.cell? ⟨b, o + j * 3 + 2, none⟩ = some (.string (aget l j).x) := by
  obtain ⟨b', o', hp, h1⟩ := h.get j hj
  injection hp with hp; injection hp with e1 e2; subst e1 e2
  exact h1
/-- One more, appended. -/
theorem Row.push {B m c1 : Nat} {W w' : World} {a1 : Option Addr} {v' : Value} {l : List At} {x : At} (hm : m = l.length) (h : w'.ownsRow B 58 3 v' (m + 1) (flat l ++ enc x)) : Row B w' v' (l ++ [x]) := by
  subst hm
  unfold Row
  rw [flat_append, flat_single, List.length_append]
  exact h
end Effect
end Go.Proofs.YtolpdhkgkjnbfaaGreatDoor

namespace Go.Proofs.YtolpdhkgkjnbfaaGreatDoor
open Go.RowKit Go.ChangeShapes Go.WideShapes
namespace Views
open Chars (BytesAt Bytes)

/-- A slice of integers that came in: nil, or all its numbers up to the capacity. -/
def IsRow (k : IntKind) (w : World) (a : Option Addr) (len cap : Nat) (zs : List Int) : Prop :=
  (a = none ∧ len = 0 ∧ cap = 0 ∧ zs = []) ∨
  ∃ x, a = some x ∧ len ≤ cap ∧ cap ≤ maxLen ∧ zs.length = cap ∧ (∀ i, i < zs.length → w.cell? (x.add i) = some (.int k (zs.getD i 0))) ∧ ∀ n ∈ zs, (Lit.int k n).wf = true

end Views
end Go.Proofs.YtolpdhkgkjnbfaaGreatDoor
namespace Go.Proofs.YtolpdhkgkjnbfaaGreatDoor
open Go.RowKit
set_option linter.unusedVariables false
set_option linter.unusedSimpArgs false
namespace Effect

def nget (l : List Int) (i : Nat) : Int := l.getD i 0
theorem nget_at {l : List Int} {i : Nat} (h : i < l.length) : l[i]? = some (nget l i) := by
  unfold nget; rw [List.getD_eq_getElem?_getD, List.getElem?_eq_getElem h]; rfl
theorem nget_mem {l : List Int} {i : Nat} (h : i < l.length) : nget l i ∈ l := List.mem_of_getElem? (nget_at h)
/-- A row of numbers that is read. -/
structure RdI (w : World) (n : Nat) (p : Option Addr) (l : List Int) : Prop where
  len : l.length = n
  at_ : l = [] ∨ ∃ b o, p = some ⟨b, o, none⟩ ∧ ∀ i, i < l.length → w.cell? ⟨b, o + i, none⟩ = some (.int .i64 (nget l i))
  ok : ∀ x ∈ l, -9223372036854775808 ≤ x ∧ x ≤ 9223372036854775807
theorem RdI.below {w W : World} {n : Nat} {p : Option Addr} {l : List Int} (h : RdI w n p l) (hb : Below w.heap.size w W) : RdI W n p l := by
  refine ⟨h.len, h.at_.imp id ?_, h.ok⟩
  rintro ⟨b, o, hp, hc⟩
  exact ⟨b, o, hp, fun i hi => (hb.cell (p := ⟨b, _, none⟩) (World.block_lt_of_cell? w _ (hc i hi))).trans (hc i hi)⟩
theorem RdI.get {w : World} {n : Nat} {p : Option Addr} {l : List Int} (h : RdI w n p l) (i : Nat) (hi : i < l.length) : ∃ b o, p = some ⟨b, o, none⟩ ∧ w.cell? ⟨b, o + i, none⟩ = some (.int .i64 (nget l i)) := by
  rcases h.at_ with rfl | ⟨b, o, hp, hc⟩
  · simp at hi
  · exact ⟨b, o, hp, hc i hi⟩
theorem RdI.of_row {w : World} {a : Option Addr} {len cap : Nat} {zs : List Int} (h : Views.IsRow .i64 w a len cap zs) : RdI w len a (zs.take len) ∧ len ≤ maxLen := by
  rcases h with ⟨rfl, rfl, rfl, rfl⟩ | ⟨x, rfl, h1, h2, h3, h4, h5⟩
  · exact ⟨⟨rfl, .inl rfl, fun x hx => by cases hx⟩, Nat.zero_le _⟩
  · have hl : (zs.take len).length = len := by rw [List.length_take]; omega
    refine ⟨⟨hl, ?_, fun y hy => wf_i64 (h5 y (List.mem_of_mem_take hy))⟩, by omega⟩
    by_cases h0 : len = 0
    · subst h0; exact .inl (by simp)
    · obtain ⟨b, o, s⟩ := x
      have hs : s = none := by
        have := World.cell?_spot (h4 0 (by omega))
        simpa [Addr.add] using this
      subst hs
      refine .inr ⟨b, o, rfl, fun i hi => ?_⟩
      rw [hl] at hi
      have := h4 i (by omega)
      rw [Addr.add_lit] at this
      rw [this]
      unfold nget
      rw [List.getD_eq_getElem?_getD, List.getD_eq_getElem?_getD, List.getElem?_take_of_lt hi]
end Effect
end Go.Proofs.YtolpdhkgkjnbfaaGreatDoor
namespace Go.Proofs.YtolpdhkgkjnbfaaGreatDoor
open Go.RowKit Go.ChangeShapes Go.WideShapes Go.Deep
set_option linter.unusedVariables false
namespace Aterm
open Effect (At AtOk AtsAt Rd RdI)

/-- A node's own fields. -/
structure Hd where
  h : Term.Hd
  rho : Int
  rhos : List Int
  e : List At
  ty : Rt.RT
  re : Rt.RT
inductive AT where
  | node : Hd → List AT → AT
def AT.h : AT → Hd
  | .node h _ => h
def AT.ks : AT → List AT
  | .node _ l => l
mutual
/-- How many nodes. -/
def wt : AT → Nat
  | .node _ l => wts l + 1
def wts : List AT → Nat
  | [] => 0
  | t :: ts => wt t + wts ts
end
theorem wt_pos (t : AT) : 0 < wt t := by cases t; unfold wt; omega
theorem wt_ks (t : AT) : wt t = wts t.ks + 1 := by cases t; unfold wt; rfl
theorem wts_nil : wts [] = 0 := by unfold wts; rfl
theorem wts_cons (t : AT) (ts : List AT) : wts (t :: ts) = wt t + wts ts := by conv => lhs; unfold wts
theorem wts_append : ∀ (ts us : List AT), wts (ts ++ us) = wts ts + wts us
  | [], us => by rw [wts_nil]; simp
  | t :: ts, us => by rw [List.cons_append, wts_cons, wts_cons, wts_append ts us]; omega
def hd0 : Hd := ⟨⟨0, 0, 0, 0, ByteArray.empty, ByteArray.empty, ByteArray.empty⟩, 0, [], [], .node ⟨0, 0, []⟩ [], .node ⟨0, 0, []⟩ []⟩
/-- Term i of some. -/
def tget (ts : List AT) (i : Nat) : AT := ts.getD i (.node hd0 [])
theorem tget_at {ts : List AT} {i : Nat} (h : i < ts.length) : ts[i]? = some (tget ts i) := by
  unfold tget
  rw [List.getD_eq_getElem?_getD, List.getElem?_eq_getElem h]
  rfl
theorem tget_mem {ts : List AT} {i : Nat} (h : i < ts.length) : tget ts i ∈ ts := List.mem_of_getElem? (tget_at h)
theorem wts_mem : ∀ {ts : List AT} {t : AT}, t ∈ ts → wt t ≤ wts ts
  | t :: ts, u, h => by
    rw [wts_cons]
    rcases List.mem_cons.1 h with rfl | h
    · omega
    · have := wts_mem h; omega
theorem wts_get {ts : List AT} {i : Nat} (h : i < ts.length) : wt (tget ts i) ≤ wts ts := wts_mem (tget_mem h)
theorem drop_tget (ts : List AT) (k : Nat) (h : k < ts.length) : ts.drop k = tget ts k :: ts.drop (k + 1) := by
  rw [List.drop_eq_getElem_cons h]
  have := tget_at h
  rw [List.getElem?_eq_getElem h] at this
  rw [Option.some.inj this]
theorem take_tget (ts : List AT) (k : Nat) (h : k < ts.length) : ts.take (k + 1) = ts.take k ++ [tget ts k] := by
  rw [List.take_add_one, tget_at h]; rfl
theorem wts_take_le : ∀ (ts : List AT) (k : Nat), wts (ts.take k) ≤ wts ts
  | [], k => by simp
  | t :: ts, 0 => by rw [List.take_zero, wts_nil]; omega
  | t :: ts, k + 1 => by rw [List.take_succ_cons, wts_cons, wts_cons]; have := wts_take_le ts k; omega
theorem wts_take_step (ts : List AT) (j : Nat) (hj : j < ts.length) : wts (ts.take (j + 1)) = wts (ts.take j) + wt (tget ts j) := by
  rw [take_tget ts j hj, wts_append, wts_cons, wts_nil]; omega
theorem wts_drop (ts : List AT) (j : Nat) (h : j < ts.length) : wts (ts.drop j) = wt (tget ts j) + wts (ts.drop (j + 1)) := by
  rw [drop_tget ts j h, wts_cons]

/-- Where a node's slices lie, and their room. -/
structure V where
  ra : Option Addr
  rc : Nat
  ea : Option Addr
  ec : Nat
  tea : Option Addr
  tec : Nat
  tka : Option Addr
  tkc : Nat
  sea : Option Addr
  sec : Nat
  ska : Option Addr
  skc : Nat
  ka : Option Addr
  kc : Nat
def v0 : V := ⟨none, 0, none, 0, none, 0, none, 0, none, 0, none, 0, none, 0⟩
/-- A type's four cells. -/
@[reducible] def acells (h : Hd) (v : V) (l : Nat) : List Value := [.int .u8 h.h.k, .int .u8 h.h.op, .int .i64 h.h.pl, .int .i64 h.h.n, .string h.h.name, .string h.h.arg, .string h.h.exn, .int .i64 h.rho, .slice v.ra h.rhos.length v.rc, .slice v.ea h.e.length v.ec, .int .u8 h.ty.h.k, .int .i64 h.ty.h.r, .slice v.tea h.ty.h.e.length v.tec, .slice v.tka h.ty.ks.length v.tkc, .int .u8 h.re.h.k, .int .i64 h.re.h.r, .slice v.sea h.re.h.e.length v.sec, .slice v.ska h.re.ks.length v.skc, .slice v.ka l v.kc]
/-- A node's fields, as memory holds them. -/
structure HdIs (w : World) (h : Hd) (v : V) : Prop where
  hd : Term.HdOk h.h
  rho : -9223372036854775808 ≤ h.rho ∧ h.rho ≤ 9223372036854775807
  rhos : RdI w h.rhos.length v.ra h.rhos
  rcap : h.rhos.length ≤ v.rc ∧ v.rc ≤ maxLen
  eff : Rt.EffIs w v.ea h.e.length v.ec h.e
  eok : ∀ x ∈ h.e, AtOk x
  ty : Rt.RtIs w h.ty.h v.tea h.ty.h.e.length v.tec v.tka h.ty.ks.length v.tkc h.ty
  re : Rt.RtIs w h.re.h v.sea h.re.h.e.length v.sec v.ska h.re.ks.length v.skc h.re
theorem HdIs.below {w W : World} {h : Hd} {v : V} (k : HdIs w h v) (hb : Below w.heap.size w W) : HdIs W h v :=
  ⟨k.hd, k.rho, k.rhos.below hb, k.rcap, k.eff.below hb, k.eok, k.ty.below hb, k.re.below hb⟩

/-- A slice's terms, and theirs, as memory holds them: nothing is asked of an empty one. -/
inductive Kids (w : World) : Option Addr → List AT → Prop where
  | nokids (p : Option Addr) : Kids w p []
  | atkids (b o : Nat) (ts : List AT) (v : Nat → V)
      (hh : ∀ i, i < ts.length → HdIs w (tget ts i).h (v i))
      (hc : ∀ i, i < ts.length → ∀ j x, (acells (tget ts i).h (v i) (tget ts i).ks.length)[j]? = some x → w.cell? ⟨b, o + i * 19 + j, none⟩ = some x)
      (hl : ∀ i, i < ts.length → (tget ts i).ks.length ≤ (v i).kc ∧ (v i).kc ≤ maxLen)
      (hk : ∀ i, i < ts.length → Kids w (v i).ka (tget ts i).ks) : Kids w (some ⟨b, o, none⟩) ts

/-- A term by value: its fields, and its kids. -/
structure AtIs (w : World) (h : Hd) (v : V) (l : Nat) (t : AT) : Prop where
  head : t.h = h
  len : t.ks.length = l
  ok : HdIs w h v
  cap : l ≤ v.kc ∧ v.kc ≤ maxLen
  kids : Kids w v.ka t.ks

/-- A term's cells at a place. -/
@[reducible] def At19 (w : World) (b o : Nat) (h : Hd) (v : V) (l : Nat) : Prop := w.cell? ⟨b, o, none⟩ = some (.int .u8 h.h.k) ∧ w.cell? ⟨b, o + 1, none⟩ = some (.int .u8 h.h.op) ∧ w.cell? ⟨b, o + 2, none⟩ = some (.int .i64 h.h.pl) ∧ w.cell? ⟨b, o + 3, none⟩ = some (.int .i64 h.h.n) ∧ w.cell? ⟨b, o + 4, none⟩ = some (.string h.h.name) ∧ w.cell? ⟨b, o + 5, none⟩ = some (.string h.h.arg) ∧ w.cell? ⟨b, o + 6, none⟩ = some (.string h.h.exn) ∧ w.cell? ⟨b, o + 7, none⟩ = some (.int .i64 h.rho) ∧ w.cell? ⟨b, o + 8, none⟩ = some (.slice v.ra h.rhos.length v.rc) ∧ w.cell? ⟨b, o + 9, none⟩ = some (.slice v.ea h.e.length v.ec) ∧ w.cell? ⟨b, o + 10, none⟩ = some (.int .u8 h.ty.h.k) ∧ w.cell? ⟨b, o + 11, none⟩ = some (.int .i64 h.ty.h.r) ∧ w.cell? ⟨b, o + 12, none⟩ = some (.slice v.tea h.ty.h.e.length v.tec) ∧ w.cell? ⟨b, o + 13, none⟩ = some (.slice v.tka h.ty.ks.length v.tkc) ∧ w.cell? ⟨b, o + 14, none⟩ = some (.int .u8 h.re.h.k) ∧ w.cell? ⟨b, o + 15, none⟩ = some (.int .i64 h.re.h.r) ∧ w.cell? ⟨b, o + 16, none⟩ = some (.slice v.sea h.re.h.e.length v.sec) ∧ w.cell? ⟨b, o + 17, none⟩ = some (.slice v.ska h.re.ks.length v.skc) ∧ w.cell? ⟨b, o + 18, none⟩ = some (.slice v.ka l v.kc)
theorem Kids.get {w : World} {p : Option Addr} {ts : List AT} (h : Kids w p ts) (i : Nat) (hi : i < ts.length) :
    ∃ b o v, p = some ⟨b, o, none⟩ ∧ AtIs w (tget ts i).h v (tget ts i).ks.length (tget ts i) ∧ At19 w b (o + i * 19) (tget ts i).h v (tget ts i).ks.length := by
  cases h with
  | nokids => simp at hi
  | atkids b o _ v hh hc hl hk =>
    have hci := hc i hi
    exact ⟨b, o, v i, rfl, ⟨rfl, rfl, hh i hi, hl i hi, hk i hi⟩, hci 0 _ rfl, hci 1 _ rfl, hci 2 _ rfl, hci 3 _ rfl, hci 4 _ rfl, hci 5 _ rfl, hci 6 _ rfl, hci 7 _ rfl, hci 8 _ rfl, hci 9 _ rfl, hci 10 _ rfl, hci 11 _ rfl, hci 12 _ rfl, hci 13 _ rfl, hci 14 _ rfl, hci 15 _ rfl, hci 16 _ rfl, hci 17 _ rfl, hci 18 _ rfl⟩
/-- As the whole range of its cells. -/
theorem Kids.load {w : World} {p : Option Addr} {ts : List AT} (h : Kids w p ts) (i : Nat) (hi : i < ts.length) :
    ∃ b o v, p = some ⟨b, o, none⟩ ∧ AtIs w (tget ts i).h v (tget ts i).ks.length (tget ts i) ∧ w.rangeAt b (o + i * 19) (acells (tget ts i).h v (tget ts i).ks.length) := by
  cases h with
  | nokids => simp at hi
  | atkids b o _ v hh hc hl hk => exact ⟨b, o, v i, rfl, ⟨rfl, rfl, hh i hi, hl i hi, hk i hi⟩, fun j x hx => hc i hi j x hx⟩
theorem Kids.stay {w W : World} {p : Option Addr} {ts : List AT} (h : Kids w p ts) (hb : Below w.heap.size w W) : Kids W p ts := by
  induction h with
  | nokids p => exact .nokids p
  | atkids b o ts v hh hc hl hk ih =>
    refine .atkids b o ts v (fun i hi => (hh i hi).below hb) (fun i hi j x hv => ?_) hl (fun i hi => ih i hi)
    have h0 := hc i hi j x hv
    exact (hb.cell (p := ⟨b, o + i * 19 + j, none⟩) (World.block_lt_of_cell? w _ h0)).trans h0
theorem AtIs.below {w W : World} {h : Hd} {v : V} {l : Nat} {t : AT} (k : AtIs w h v l t) (hb : Below w.heap.size w W) : AtIs W h v l t := ⟨k.head, k.len, k.ok.below hb, k.cap, k.kids.stay hb⟩

/-! ### How an argument is seen -/
theorem list19 {α : Type} {l : List α} (h : l.length = 19) : ∃ c0 c1 c2 c3 c4 c5 c6 c7 c8 c9 c10 c11 c12 c13 c14 c15 c16 c17 c18, l = [c0, c1, c2, c3, c4, c5, c6, c7, c8, c9, c10, c11, c12, c13, c14, c15, c16, c17, c18] := by
  match l, h with
  | [c0, c1, c2, c3, c4, c5, c6, c7, c8, c9, c10, c11, c12, c13, c14, c15, c16, c17, c18], _ => exact ⟨c0, c1, c2, c3, c4, c5, c6, c7, c8, c9, c10, c11, c12, c13, c14, c15, c16, c17, c18, rfl⟩
theorem atCells : Tryz.prog.cellsOf 31 = 19 := by kernel_rfl
theorem rowCells : Tryz.prog.cellsOf 24 = 1 := by kernel_rfl
theorem effCells : Tryz.prog.cellsOf 25 = 1 := by kernel_rfl
theorem kidCells : Tryz.prog.cellsOf 29 = 1 := by kernel_rfl
theorem atInfo : (Tryz.prog.info? 31).map (·.size) = some 19 := by kernel_rfl
/-- A term that is loaded. -/
theorem at_load {ops : Array Oper} {rest : List Oper} {op : Oper} {a : Act} {w : World} {Q : Exit → Act → World → Prop} (hgd : op.guard = none) (x : Operand) (ho : op.op = .load 31 x)
    (b o : Nat) (hx : a.eval x = .pointer (some ⟨b, o, none⟩)) {h : Hd} {v : V} {l : Nat} (hr : w.rangeAt b o (acells h v l))
    (k : wpList Tryz.prog ops Q rest (a.put op.dst (.agg #[.int .u8 h.h.k, .int .u8 h.h.op, .int .i64 h.h.pl, .int .i64 h.h.n, .string h.h.name, .string h.h.arg, .string h.h.exn, .int .i64 h.rho, .slice v.ra h.rhos.length v.rc, .slice v.ea h.e.length v.ec, .int .u8 h.ty.h.k, .int .i64 h.ty.h.r, .slice v.tea h.ty.h.e.length v.tec, .slice v.tka h.ty.ks.length v.tkc, .int .u8 h.re.h.k, .int .i64 h.re.h.r, .slice v.sea h.re.h.e.length v.sec, .slice v.ska h.re.ks.length v.skc, .slice v.ka l v.kc])) w) : wpList Tryz.prog ops Q (op :: rest) a w :=
  wpList_load_mid hgd 31 x ho b o hx (acells h v l) _ hr Tryz.underlying31 rfl atInfo k
theorem atFields : ∃ f0 f1 f2 f3 f4 f5 f6 : Field, Tryz.prog.underlying 31 = some (.struct #[f0, f1, f2, f3, f4, f5, f6]) ∧
    (f0.type = 23 ∧ f0.offset = 0) ∧ (Tryz.prog.underlying f1.type = some (.int .i64) ∧ f1.offset = 7 ∧ Tryz.prog.cellsOf f1.type = 1) ∧ (f2.type = 24 ∧ f2.offset = 8) ∧ (f3.type = 25 ∧ f3.offset = 9) ∧
    (f4.type = 28 ∧ f4.offset = 10) ∧ (f5.type = 28 ∧ f5.offset = 14) ∧ (f6.type = 29 ∧ f6.offset = 18) :=
  ⟨_, _, _, _, _, _, _, Tryz.underlying31, ⟨by kernel_rfl, by kernel_rfl⟩, ⟨by kernel_rfl, by kernel_rfl, by kernel_rfl⟩, ⟨by kernel_rfl, by kernel_rfl⟩, ⟨by kernel_rfl, by kernel_rfl⟩, ⟨by kernel_rfl, by kernel_rfl⟩, ⟨by kernel_rfl, by kernel_rfl⟩, ⟨by kernel_rfl, by kernel_rfl⟩⟩

section
variable {H : Type} {enc : TypeId × Value → H} {w : World} {base : Nat} {sp : Nat → Bool} {held : Bool}
/-- A row of ints, of what reads as one. -/
theorem open_row {fuel : Nat} {cs : List Value} {y : DataW H × List MemPlace} (h : DataW.trod enc Tryz.prog w base sp held fuel 24 cs = some y) :
    ∃ p l c zs, cs = [.slice p l c] ∧ zs.length = l ∧ RdI w l p zs ∧ (l ≤ c ∧ c ≤ maxLen) := by
  rcases open_ints Tryz.underlying24 Tryz.underlying3 (by kernel_rfl) h with ⟨rfl, _⟩ | ⟨x, l, c, zs, hcs, _, hl, hm, hz, _, hcell, hwz⟩
  · exact ⟨none, 0, 0, [], rfl, rfl, ⟨rfl, .inl rfl, by simp⟩, by unfold maxLen; omega⟩
  · have hzl : l ≤ zs.length := by rw [hz]; split <;> omega
    have hl' : (zs.take l).length = l := by rw [List.length_take]; omega
    refine ⟨some x, l, c, zs.take l, hcs, hl', ⟨hl', ?_, fun y hy => Effect.wf_i64 (hwz y (List.mem_of_mem_take hy))⟩, hl, hm⟩
    by_cases h0 : l = 0
    · subst h0; exact .inl (by simp)
    · obtain ⟨b, o, s⟩ := x
      have hs : s = none := by
        have := World.cell?_spot (hcell 0 (by omega))
        simpa [Addr.add] using this
      subst hs
      refine .inr ⟨b, o, rfl, fun i hi => ?_⟩
      rw [hl'] at hi
      have := hcell i (by omega)
      rw [Addr.add_lit] at this
      rw [this]
      unfold Effect.nget
      rw [List.getD_eq_getElem?_getD, List.getD_eq_getElem?_getD, List.getElem?_take_of_lt hi]
theorem open_all : ∀ fuel : Nat,
    (∀ (cs : List Value) (y : DataW H × List MemPlace), DataW.trod enc Tryz.prog w base sp held fuel 31 cs = some y → ∃ h v l t, cs = acells h v l ∧ AtIs w h v l t) ∧
    (∀ (cs : List Value) (y : DataW H × List MemPlace), DataW.trod enc Tryz.prog w base sp held fuel 29 cs = some y → ∃ p l c ts, cs = [.slice p l c] ∧ ts.length = l ∧ l ≤ c ∧ c ≤ maxLen ∧ Kids w p ts) := by
  intro fuel
  induction fuel using Nat.strongRecOn with
  | _ fuel ih =>
    constructor
    · intro cs y h
      obtain ⟨f0, f1, f2, f3, f4, f5, f6, hu, ⟨t0, o0⟩, ⟨u1, o1, k1⟩, ⟨t2, o2⟩, ⟨t3, o3⟩, ⟨t4, o4⟩, ⟨t5, o5⟩, ⟨t6, o6⟩⟩ := atFields
      obtain ⟨xs, n, hfuel, _, hlen, hxl, hf⟩ := DataW.trod_struct hu h
      rw [atCells] at hlen
      obtain ⟨c0, c1, c2, c3, c4, c5, c6, c7, c8, c9, c10, c11, c12, c13, c14, c15, c16, c17, c18, rfl⟩ := list19 hlen
      have hxl' : xs.length = 7 := hxl
      obtain ⟨y0, y1, y2, y3, y4, y5, y6, rfl⟩ := Term.list7 hxl'
      have h0 := hf 0 f0 rfl
      have h1 := hf 1 f1 rfl
      have h2 := hf 2 f2 rfl
      have h3 := hf 3 f3 rfl
      have h4 := hf 4 f4 rfl
      have h5 := hf 5 f5 rfl
      have h6 := hf 6 f6 rfl
      rw [t0, Term.hdCells, o0] at h0
      rw [k1, o1] at h1
      rw [t2, rowCells, o2] at h2
      rw [t3, effCells, o3] at h3
      rw [t4, Rt.rtCells, o4] at h4
      rw [t5, Rt.rtCells, o5] at h5
      rw [t6, kidCells, o6] at h6
      have e0 : DataW.trod enc Tryz.prog w base sp held n 23 [c0, c1, c2, c3, c4, c5, c6] = some y0 := h0
      have e1 : DataW.trod enc Tryz.prog w base sp held n f1.type [c7] = some y1 := h1
      have e2 : DataW.trod enc Tryz.prog w base sp held n 24 [c8] = some y2 := h2
      have e3 : DataW.trod enc Tryz.prog w base sp held n 25 [c9] = some y3 := h3
      have e4 : DataW.trod enc Tryz.prog w base sp held n 28 [c10, c11, c12, c13] = some y4 := h4
      have e5 : DataW.trod enc Tryz.prog w base sp held n 28 [c14, c15, c16, c17] = some y5 := h5
      have e6 : DataW.trod enc Tryz.prog w base sp held n 29 [c18] = some y6 := h6
      obtain ⟨hd, hcs, hok⟩ := Term.open_hd e0
      obtain ⟨R, r1, _, g1⟩ := DataW.trod_int u1 e1
      injection r1 with r1
      subst r1
      obtain ⟨ra, rl, rc, zs, hcs2, hzl, hzr, hzc⟩ := open_row e2
      injection hcs2 with hcs2
      subst hcs2
      obtain ⟨pe, ne, ce, es, hcs3, hes, hcap⟩ := Effect.open_row2 e3
      injection hcs3 with hcs3
      subst hcs3
      obtain ⟨th, tea, tne, tec, tka, tl, tkc, ty, hcs4, hty⟩ := (Rt.open_all n).1 _ _ e4
      obtain ⟨sh, sea, sne, sec, ska, sl, skc, re, hcs5, hre⟩ := (Rt.open_all n).1 _ _ e5
      obtain ⟨p, l, c, ts, hcs6, hl, hlc, hcm, hk⟩ := (ih n (by omega)).2 _ _ e6
      injection hcs6 with hcs6
      subst hcs6
      have a1 := hty.head; have a2 := hty.elen; have a3 := hty.len
      have b1 := hre.head; have b2 := hre.elen; have b3 := hre.len
      subst a1 a2 a3 b1 b2 b3
      unfold Term.hcells at hcs
      unfold Rt.rcells at hcs4 hcs5
      simp only [List.cons.injEq, and_true] at hcs hcs4 hcs5
      obtain ⟨rfl, rfl, rfl, rfl, rfl, rfl, rfl⟩ := hcs
      obtain ⟨rfl, rfl, rfl, rfl⟩ := hcs4
      obtain ⟨rfl, rfl, rfl, rfl⟩ := hcs5
      obtain rfl := hzl
      have hel := hes.1
      obtain rfl := hel
      exact ⟨⟨hd, R, zs, es, ty, re⟩, ⟨ra, rc, pe, ce, tea, tec, tka, tkc, sea, sec, ska, skc, p, c⟩, l, .node ⟨hd, R, zs, es, ty, re⟩ ts, rfl, ⟨rfl, hl, ⟨hok, Effect.wf_i64 g1, hzr, hzc, ⟨hes.rd, hcap⟩, hes.2.2.2, hty, hre⟩, ⟨hlc, hcm⟩, hk⟩⟩
    · intro cs y h
      rcases DataW.trod_slice Tryz.underlying29 h with ⟨rfl, _⟩ | ⟨a, len, cap, elems, rest, n, hfuel, rfl, _, hb, hl, hm, hlen, hel, _, _⟩
      · exact ⟨none, 0, 0, [], rfl, rfl, Nat.le_refl _, by unfold maxLen; omega, Kids.nokids _⟩
      · have each : ∀ i, i < len → ∃ h v l t, AtIs w h v l t ∧ ∀ j x, (acells h v l)[j]? = some x → w.cell? ((a.add (i * 19)).add j) = some x := by
          intro i hi
          have he := hel i hi
          rw [atCells, List.getElem?_eq_getElem (by omega)] at he
          obtain ⟨cs', hc, ht⟩ := Option.bind_eq_some_iff.1 he
          obtain ⟨h, v, l, t, rfl, hT⟩ := (ih n (by omega)).1 _ _ ht
          obtain ⟨_, _, hcell⟩ := World.cells?_some hc
          refine ⟨h, v, l, t, hT, fun j x hv => ?_⟩
          have hj : j < 19 := by
            rcases Nat.lt_or_ge j 19 with h | h
            · exact h
            · rw [List.getElem?_eq_none (by simpa [acells] using h)] at hv; cases hv
          rw [hcell j hj, hv]
        have each' : ∀ i, ∃ r : V × AT, i < len → AtIs w r.2.h r.1 r.2.ks.length r.2 ∧ ∀ j x, (acells r.2.h r.1 r.2.ks.length)[j]? = some x → w.cell? ((a.add (i * 19)).add j) = some x := by
          intro i
          by_cases hi : i < len
          · obtain ⟨h, v, l, t, hT, hc⟩ := each i hi
            have e1 := hT.head
            have e2 := hT.len
            subst e1 e2
            exact ⟨(v, t), fun _ => ⟨hT, hc⟩⟩
          · exact ⟨(v0, .node hd0 []), fun h => absurd h hi⟩
        obtain ⟨R, hR⟩ := Classical.axiomOfChoice each'
        obtain ⟨F, hFd⟩ : ∃ F : Nat → AT, F = fun i => (R i).2 := ⟨_, rfl⟩
        obtain ⟨Q, hQd⟩ : ∃ Q : Nat → V, Q = fun i => (R i).1 := ⟨_, rfl⟩
        have hF : ∀ i, i < len → AtIs w (F i).h (Q i) (F i).ks.length (F i) ∧ ∀ j x, (acells (F i).h (Q i) (F i).ks.length)[j]? = some x → w.cell? ((a.add (i * 19)).add j) = some x := by
          subst hFd hQd
          exact hR
        have hlen' : ((List.range len).map F).length = len := by simp
        have hget : ∀ i, i < len → tget ((List.range len).map F) i = F i := by
          intro i hi
          unfold tget
          rw [List.getD_eq_getElem?_getD, List.getElem?_map, List.getElem?_range hi]
          rfl
        refine ⟨some a, len, cap, (List.range len).map F, rfl, hlen', hl, hm, ?_⟩
        by_cases h0 : len = 0
        · subst h0; exact .nokids _
        · obtain ⟨b, o, s⟩ := a
          have h1 := (hF 0 (by omega)).2 0 _ rfl
          have hs : s = none := by
            have := World.cell?_spot h1
            simpa [Addr.add] using this
          subst hs
          refine .atkids b o _ Q (fun i hi => ?_) (fun i hi j x hv => ?_) (fun i hi => ?_) (fun i hi => ?_)
          · rw [hlen'] at hi; rw [hget i hi]; exact (hF i hi).1.ok
          · rw [hlen'] at hi; rw [hget i hi] at hv
            have := (hF i hi).2 j x hv
            rw [Addr.add_lit, Addr.add_lit] at this
            exact this
          · rw [hlen'] at hi; rw [hget i hi]; exact (hF i hi).1.cap
          · rw [hlen'] at hi; rw [hget i hi]; exact (hF i hi).1.kids

/-! ### Arguments -/
theorem open_at {fuel : Nat} {cs : Array Value} {y : DataW H × List MemPlace} (h : DataW.trod enc Tryz.prog w base sp held fuel 31 (Value.agg cs).cells.toList = some y) :
    ∃ h v l t, cs = (acells h v l).toArray ∧ AtIs w h v l t := by
  obtain ⟨hd, v, l, t, hc, hT⟩ := (open_all fuel).1 _ _ h
  refine ⟨hd, v, l, t, ?_, hT⟩
  have h1 : cs.toList = acells hd v l := hc
  exact Array.toList_inj.1 h1
/-- A slice of terms, as memory holds it. -/
def IsAts (w : World) (a : Option Addr) (len cap : Nat) (ts : List AT) : Prop := ts.length = len ∧ len ≤ cap ∧ cap ≤ maxLen ∧ Kids w a ts
theorem open_ats {fuel : Nat} {a : Option Addr} {len cap : Nat} {y : DataW H × List MemPlace} (h : DataW.trod enc Tryz.prog w base sp held fuel 29 (Value.slice a len cap).cells.toList = some y) : ∃ ts, IsAts w a len cap ts := by
  obtain ⟨p, l, c, ts, hc, h1, h2, h3, h4⟩ := (open_all fuel).2 _ _ h
  have h5 : [Value.slice a len cap] = [.slice p l c] := hc
  injection h5 with h5
  injection h5 with e1 e2 e3
  subst e1 e2 e3
  exact ⟨ts, h1, h2, h3, h4⟩
end
end Aterm
end Go.Proofs.YtolpdhkgkjnbfaaGreatDoor

namespace Go.Proofs.YtolpdhkgkjnbfaaGreatDoor
open Go.RowKit
set_option linter.unusedVariables false
set_option linter.unusedSimpArgs false
namespace Effect

/-- One element of a row of one's own. -/
theorem Row.cell {B n c : Nat} {W : World} {a : Option Addr} {l : List At} (h : Row B W (.slice a n c) l) {j : Nat} (hj : j < l.length) : ∃ g, a = some ⟨g, 0, none⟩ ∧ B ≤ g ∧ g < W.heap.size ∧ (W.cell? ⟨g, j * 3, none⟩ = some (.int .u8 (aget l j).k) ∧ W.cell? ⟨g, j * 3 + 1, none⟩ = some (.int .i64 (aget l j).r) ∧ W.cell? ⟨g, j * 3 + 2, none⟩ = some (.string (aget l j).x)) ∧ W.frozen? ⟨g, j * 3 + 1, none⟩ = false := by
  rcases h.2 with ⟨_, h0⟩ | ⟨g, cap, cur, hv, hb, hg, h1, h2, h3, h4⟩
  · omega
  · injection hv with hv1 hv2 hv3
    subst hv1
    have key : ∀ i, i < 3 → ∀ u, (enc (aget l j))[i]? = some u → W.cell? ⟨g, j * 3 + i, none⟩ = some u := fun i hi u hu => by
      have := h.cells (g := g) rfl (j * 3 + i) u (by rw [flat_get l j hj i hi]; exact hu)
      rw [Addr.add_lit] at this
      simpa using this
    refine ⟨g, rfl, hb, lt_of_block hg, ⟨key 0 (by omega) _ rfl, key 1 (by omega) _ rfl, key 2 (by omega) _ rfl⟩, ?_⟩
    simp [World.frozen?, hg]
theorem flat_set (l : List At) (j : Nat) (r : Int) (hj : j < l.length) : flat (l.set j { aget l j with r := r }) = (flat l).set (j * 3 + 1) (.int .i64 r) := by
  apply List.ext_getElem?
  intro t
  by_cases ht : t < l.length * 3
  · have e := flat_get (l.set j { aget l j with r := r }) (t / 3) (by rw [List.length_set]; omega) (t % 3) (Nat.mod_lt t (by omega))
    rw [show t / 3 * 3 + t % 3 = t by omega] at e
    rw [e]
    have e2 := flat_get l (t / 3) (by omega) (t % 3) (Nat.mod_lt t (by omega))
    rw [show t / 3 * 3 + t % 3 = t by omega] at e2
    rw [List.getElem?_set]
    by_cases hq : t / 3 = j
    · have ea : aget (l.set j { aget l j with r := r }) (t / 3) = { aget l j with r := r } := by
        unfold aget; rw [List.getD_eq_getElem?_getD, List.getElem?_set, if_pos hq.symm, if_pos hj]; rfl
      rw [ea]
      by_cases h1 : j * 3 + 1 = t
      · rw [if_pos h1, if_pos (by rw [flat_len]; omega), show t % 3 = 1 by omega]; rfl
      · rw [if_neg h1, e2, hq]
        rcases (by omega : t % 3 = 0 ∨ t % 3 = 2) with q | q <;> rw [q] <;> rfl
    · have ea : aget (l.set j { aget l j with r := r }) (t / 3) = aget l (t / 3) := by
        unfold aget; rw [List.getD_eq_getElem?_getD, List.getElem?_set, if_neg (fun e => hq e.symm), List.getD_eq_getElem?_getD]
      rw [ea, if_neg (by omega), e2]
  · rw [List.getElem?_eq_none (by rw [flat_len, List.length_set]; omega), List.getElem?_eq_none (by rw [List.length_set, flat_len]; omega)]
theorem Row.set {B n c g : Nat} {W : World} {l : List At} (h : Row B W (.slice (some ⟨g, 0, none⟩) n c) l) {j : Nat} (hj : j < l.length) (r : Int) : Row B (W.setCell ⟨g, j * 3 + 1, none⟩ (.int .i64 r)) (.slice (some ⟨g, 0, none⟩) n c) (l.set j { aget l j with r := r }) := by
  rcases h.2 with ⟨_, h0⟩ | ⟨g', cap, cur, hv, hb, hg, h1, h2, h3, h4⟩
  · omega
  · injection hv with hv1 hv2 hv3
    injection hv1 with hv1; injection hv1 with hv1
    subst hv1 hv3
    refine ⟨by rw [flat_len], .inr ⟨g, c, cur.setIfInBounds (j * 3 + 1) (.int .i64 r), by rw [List.length_set, hv2], hb, heap_setCell_same W g (j * 3 + 1) cur _ _ hg, by rw [List.length_set]; exact h1, h2, by simpa using h3, ?_⟩⟩
    rw [flat_set l j r hj, List.length_set, Array.toList_setIfInBounds, List.take_set, h4]
end Effect
end Go.Proofs.YtolpdhkgkjnbfaaGreatDoor
namespace Go.Proofs.YtolpdhkgkjnbfaaGreatDoor
open Go.RowKit Go.Sort Go.Shelf Go.Lib
set_option linter.unusedVariables false
set_option linter.unusedSimpArgs false
namespace Effect

/-- A row of texts that is read. -/
structure RdS (w : World) (n : Nat) (p : Option Addr) (l : List ByteArray) : Prop where
  len : l.length = n
  at_ : l = [] ∨ ∃ b o, p = some ⟨b, o, none⟩ ∧ ∀ i, i < l.length → w.cell? ⟨b, o + i, none⟩ = some (.string (l.getD i ByteArray.empty))
theorem RdS.below {w W : World} {n : Nat} {p : Option Addr} {l : List ByteArray} (h : RdS w n p l) (hb : Below w.heap.size w W) : RdS W n p l := by
  refine ⟨h.len, h.at_.imp id ?_⟩
  rintro ⟨b, o, hp, hc⟩
  exact ⟨b, o, hp, fun i hi => (hb.cell (p := ⟨b, _, none⟩) (World.block_lt_of_cell? w _ (hc i hi))).trans (hc i hi)⟩
end Effect
end Go.Proofs.YtolpdhkgkjnbfaaGreatDoor
namespace Go.Proofs.YtolpdhkgkjnbfaaGreatDoor
open Go.RowKit
set_option linter.unusedVariables false
set_option linter.unusedSimpArgs false
namespace Effect

set_option maxHeartbeats 6400000 in
theorem refInts_walk {n c : Nat} {a : Option Addr} {l : List Int} {w : World} (h : RdI w n a l) (hn : n ≤ 100000) (x : Int) : Calls Tryz.prog 42 #[.slice a n c, .int .i64 x] w fun e w' => e = .returned (.bool (l.contains x)) ∧ w' = w := by
  have H := Lib.hid h
  clear h
  go_enter Tryz.func42, Tryz.ntmps42
  go_wp2_with (fail)
  go_loopw [5, 8] (fun _ i wr => ∃ j : Nat, j ≤ n ∧ i = .int .i64 (j : Int) ∧ Hid (wr = w) ∧ Hid (∀ i, i < j → nget l i ≠ x)) (fun _ i _ => n - (intOf i).toNat)
  case atStart => exact ⟨0, Nat.zero_le _, rfl, Lib.hid rfl, Lib.hid (fun i hi => absurd hi (Nat.not_lt_zero _))⟩
  case round =>
    obtain ⟨j, hj, rfl, HW, HA⟩ := hrel
    by_cases hlt : j < n
    · have hjl : j < l.length := by rw [H.out.len]; exact hlt
      obtain ⟨b1, o1, rfl, e0⟩ := H.out.get j hjl
      rw [← HW.out] at e0
      by_cases hx : nget l j = x
      · have HC := Lib.hid (show l.contains x = true by simp; rw [← hx]; exact nget_mem hjl)
        rw [hx] at e0
        have hxx : (x == x) = true := by simp
        clear hx hjl
        go_wp2_with (fail)
        go_ret
        exact ⟨ret_bool HC.out.symm, HW.out⟩
      · have hxx : (nget l j == x) = false := by simpa using hx
        have HX := Lib.hid hx
        clear hx hjl
        go_wp2_with (fail)
        go_roundw
        case rel => exact ⟨j + 1, by omega, by go_num, HW, Lib.hid fun i hi => by
            by_cases e : i = j
            · rw [e]; exact HX.out
            · exact HA.out i (by omega)⟩
        case measure => simp [intOf]; omega
    · obtain rfl : j = n := by omega
      have HC := Lib.hid (show l.contains x = false by
        rw [Bool.eq_false_iff]
        intro hc
        have hmem : x ∈ l := by simpa using hc
        obtain ⟨i, hi, e⟩ := List.mem_iff_getElem.1 hmem
        refine HA.out i (by rw [← H.out.len]; exact hi) ?_
        have := nget_at hi
        rw [List.getElem?_eq_getElem hi, e] at this
        exact (Option.some.inj this).symm)
      go_wp2_with (fail)
      go_ret
      exact ⟨ret_bool HC.out.symm, HW.out⟩
end Effect
end Go.Proofs.YtolpdhkgkjnbfaaGreatDoor
namespace Go.Proofs.YtolpdhkgkjnbfaaGreatDoor
open Go.RowKit
set_option linter.unusedVariables false
set_option linter.unusedSimpArgs false
namespace Effect

def intsV (l : List Int) : List Value := l.map (Value.int .i64)
/-- A row of numbers of one's own. -/
def Ixs (B : Nat) (W : World) (v : Value) (n : Nat) (l : List Int) : Prop := W.ownsRow B 3 1 v n (intsV l)
theorem RdI.of_own {B n c : Nat} {W : World} {a : Option Addr} {l : List Int} (h : Ixs B W (.slice a n c) n l) (hok : ∀ x ∈ l, -9223372036854775808 ≤ x ∧ x ≤ 9223372036854775807) : RdI W n a l := by
  have hl : l.length = n := by have := h.1; unfold intsV at this; rw [List.length_map] at this; omega
  refine ⟨hl, ?_, hok⟩
  by_cases h0 : n = 0
  · left; exact List.eq_nil_of_length_eq_zero (by omega)
  · rcases h.2 with ⟨_, h0'⟩ | ⟨g, cap, cur, hv, hb, hg, h1, _⟩
    · omega
    · injection hv with hv1 hv2 hv3
      subst hv1
      refine .inr ⟨g, 0, rfl, fun i hi => ?_⟩
      have := h.cells (g := g) rfl i (.int .i64 (nget l i)) (by unfold intsV; rw [List.getElem?_map, nget_at hi]; rfl)
      rw [Addr.add_lit] at this
      exact this
end Effect
end Go.Proofs.YtolpdhkgkjnbfaaGreatDoor

