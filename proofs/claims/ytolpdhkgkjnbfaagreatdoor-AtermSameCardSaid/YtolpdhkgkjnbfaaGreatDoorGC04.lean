/-Terms with regions, and how memory holds them. Swap: the program's and the document's. Without some regions; without some exceptions. The regions of rows of atoms, as the program tells them. Rows of atoms, the document's way: which are too great, their union; are rows of numbers, of texts, equal. Are rows of numbers, of texts, equal; a rising row with one more; regions and exceptions, the document's way. Types, and how memory holds them. Types: mathematics: how many nodes, which kinds, which may be, which are the same, and their words. Types with regions: mathematics: how many nodes, which may be, which are the same, their regions, what they are without, and their words. -/
import Derived.Test.YtolpdhkgkjnbfaaGreatDoorGC00
import Derived.Test.YtolpdhkgkjnbfaaGreatDoorGC03
import Derived.Deep.MidRow
import Derived.Laws.Rows
import Derived.Sort.OwnSortedInts
import Derived.Shelf.RegionOpenPlain
import Derived.Test.YtolpdhkgkjnbfaaGreatDoorRows
import Derived.WalkKit
import Derived.Below
import Derived.Deep.Slices
import Derived.Deep.Fields
import Derived.LoopTactic
import Derived.Outline
import Derived.Lib.Hide
import Derived.IntWalk
import Derived.Lib.Join
import Derived.Lib.ItoaLen
namespace Go.Proofs.YtolpdhkgkjnbfaaGreatDoor
open Go.RowKit Go.ChangeShapes Go.WideShapes Go.Deep
set_option linter.unusedVariables false
namespace Aterm
open Effect (At AtOk AtsAt Rd RdI)

/-- A node's own fields. -/
structure Hd where
  h : Term.Hd
  rho : Int
  rhos : List Int
  e : List At
  ty : Rt.RT
  re : Rt.RT
inductive AT where
  | node : Hd → List AT → AT
def AT.h : AT → Hd
  | .node h _ => h
def AT.ks : AT → List AT
  | .node _ l => l
mutual
/-- How many nodes. -/
def wt : AT → Nat
  | .node _ l => wts l + 1
def wts : List AT → Nat
  | [] => 0
  | t :: ts => wt t + wts ts
end
theorem wt_pos (t : AT) : 0 < wt t := by cases t; unfold wt; omega
theorem wt_ks (t : AT) : wt t = wts t.ks + 1 := by cases t; unfold wt; rfl
theorem wts_nil : wts [] = 0 := by unfold wts; rfl
theorem wts_cons (t : AT) (ts : List AT) : wts (t :: ts) = wt t + wts ts := by conv => lhs; unfold wts
def hd0 : Hd := ⟨⟨0, 0, 0, 0, ByteArray.empty, ByteArray.empty, ByteArray.empty⟩, 0, [], [], .node ⟨0, 0, []⟩ [], .node ⟨0, 0, []⟩ []⟩
/-- Term i of some. -/
def tget (ts : List AT) (i : Nat) : AT := ts.getD i (.node hd0 [])
theorem tget_at {ts : List AT} {i : Nat} (h : i < ts.length) : ts[i]? = some (tget ts i) := by
  unfold tget
  rw [List.getD_eq_getElem?_getD, List.getElem?_eq_getElem h]
  rfl
theorem tget_mem {ts : List AT} {i : Nat} (h : i < ts.length) : tget ts i ∈ ts := List.mem_of_getElem? (tget_at h)
theorem wts_mem : ∀ {ts : List AT} {t : AT}, t ∈ ts → wt t ≤ wts ts
  | t :: ts, u, h => by
    rw [wts_cons]
    rcases List.mem_cons.1 h with rfl | h
    · omega
    · have := wts_mem h; omega
theorem wts_get {ts : List AT} {i : Nat} (h : i < ts.length) : wt (tget ts i) ≤ wts ts := wts_mem (tget_mem h)
theorem drop_tget (ts : List AT) (k : Nat) (h : k < ts.length) : ts.drop k = tget ts k :: ts.drop (k + 1) := by
  rw [List.drop_eq_getElem_cons h]
  have := tget_at h
  rw [List.getElem?_eq_getElem h] at this
  rw [Option.some.inj this]
theorem take_tget (ts : List AT) (k : Nat) (h : k < ts.length) : ts.take (k + 1) = ts.take k ++ [tget ts k] := by
  rw [List.take_add_one, tget_at h]; rfl
theorem wts_drop (ts : List AT) (j : Nat) (h : j < ts.length) : wts (ts.drop j) = wt (tget ts j) + wts (ts.drop (j + 1)) := by
  rw [drop_tget ts j h, wts_cons]

/-- Where a node's slices lie, and their room. -/
structure V where
  ra : Option Addr
  rc : Nat
  ea : Option Addr
  ec : Nat
  tea : Option Addr
  tec : Nat
  tka : Option Addr
  tkc : Nat
  sea : Option Addr
  sec : Nat
  ska : Option Addr
  skc : Nat
  ka : Option Addr
  kc : Nat
def v0 : V := ⟨none, 0, none, 0, none, 0, none, 0, none, 0, none, 0, none, 0⟩
/-- A type's four cells. -/
@[reducible] def acells (h : Hd) (v : V) (l : Nat) : List Value := [.int .u8 h.h.k, .int .u8 h.h.op, .int .i64 h.h.pl, .int .i64 h.h.n, .string h.h.name, .string h.h.arg, .string h.h.exn, .int .i64 h.rho, .slice v.ra h.rhos.length v.rc, .slice v.ea h.e.length v.ec, .int .u8 h.ty.h.k, .int .i64 h.ty.h.r, .slice v.tea h.ty.h.e.length v.tec, .slice v.tka h.ty.ks.length v.tkc, .int .u8 h.re.h.k, .int .i64 h.re.h.r, .slice v.sea h.re.h.e.length v.sec, .slice v.ska h.re.ks.length v.skc, .slice v.ka l v.kc]
/-- A node's fields, as memory holds them. -/
structure HdIs (w : World) (h : Hd) (v : V) : Prop where
  hd : Term.HdOk h.h
  rho : -9223372036854775808 ≤ h.rho ∧ h.rho ≤ 9223372036854775807
  rhos : RdI w h.rhos.length v.ra h.rhos
  rcap : h.rhos.length ≤ v.rc ∧ v.rc ≤ maxLen
  eff : Rt.EffIs w v.ea h.e.length v.ec h.e
  eok : ∀ x ∈ h.e, AtOk x
  ty : Rt.RtIs w h.ty.h v.tea h.ty.h.e.length v.tec v.tka h.ty.ks.length v.tkc h.ty
  re : Rt.RtIs w h.re.h v.sea h.re.h.e.length v.sec v.ska h.re.ks.length v.skc h.re
theorem HdIs.below {w W : World} {h : Hd} {v : V} (k : HdIs w h v) (hb : Below w.heap.size w W) : HdIs W h v :=
  ⟨k.hd, k.rho, k.rhos.below hb, k.rcap, k.eff.below hb, k.eok, k.ty.below hb, k.re.below hb⟩

/-- A slice's terms, and theirs, as memory holds them: nothing is asked of an empty one. -/
inductive Kids (w : World) : Option Addr → List AT → Prop where
  | nokids (p : Option Addr) : Kids w p []
  | atkids (b o : Nat) (ts : List AT) (v : Nat → V)
      (hh : ∀ i, i < ts.length → HdIs w (tget ts i).h (v i))
      (hc : ∀ i, i < ts.length → ∀ j x, (acells (tget ts i).h (v i) (tget ts i).ks.length)[j]? = some x → w.cell? ⟨b, o + i * 19 + j, none⟩ = some x)
      (hl : ∀ i, i < ts.length → (tget ts i).ks.length ≤ (v i).kc ∧ (v i).kc ≤ maxLen)
      (hk : ∀ i, i < ts.length → Kids w (v i).ka (tget ts i).ks) : Kids w (some ⟨b, o, none⟩) ts

/-- A term by value: its fields, and its kids. -/
structure AtIs (w : World) (h : Hd) (v : V) (l : Nat) (t : AT) : Prop where
  head : t.h = h
  len : t.ks.length = l
  ok : HdIs w h v
  cap : l ≤ v.kc ∧ v.kc ≤ maxLen
  kids : Kids w v.ka t.ks

/-- A term's cells at a place. -/
@[reducible] def At19 (w : World) (b o : Nat) (h : Hd) (v : V) (l : Nat) : Prop := w.cell? ⟨b, o, none⟩ = some (.int .u8 h.h.k) ∧ w.cell? ⟨b, o + 1, none⟩ = some (.int .u8 h.h.op) ∧ w.cell? ⟨b, o + 2, none⟩ = some (.int .i64 h.h.pl) ∧ w.cell? ⟨b, o + 3, none⟩ = some (.int .i64 h.h.n) ∧ w.cell? ⟨b, o + 4, none⟩ = some (.string h.h.name) ∧ w.cell? ⟨b, o + 5, none⟩ = some (.string h.h.arg) ∧ w.cell? ⟨b, o + 6, none⟩ = some (.string h.h.exn) ∧ w.cell? ⟨b, o + 7, none⟩ = some (.int .i64 h.rho) ∧ w.cell? ⟨b, o + 8, none⟩ = some (.slice v.ra h.rhos.length v.rc) ∧ w.cell? ⟨b, o + 9, none⟩ = some (.slice v.ea h.e.length v.ec) ∧ w.cell? ⟨b, o + 10, none⟩ = some (.int .u8 h.ty.h.k) ∧ w.cell? ⟨b, o + 11, none⟩ = some (.int .i64 h.ty.h.r) ∧ w.cell? ⟨b, o + 12, none⟩ = some (.slice v.tea h.ty.h.e.length v.tec) ∧ w.cell? ⟨b, o + 13, none⟩ = some (.slice v.tka h.ty.ks.length v.tkc) ∧ w.cell? ⟨b, o + 14, none⟩ = some (.int .u8 h.re.h.k) ∧ w.cell? ⟨b, o + 15, none⟩ = some (.int .i64 h.re.h.r) ∧ w.cell? ⟨b, o + 16, none⟩ = some (.slice v.sea h.re.h.e.length v.sec) ∧ w.cell? ⟨b, o + 17, none⟩ = some (.slice v.ska h.re.ks.length v.skc) ∧ w.cell? ⟨b, o + 18, none⟩ = some (.slice v.ka l v.kc)
theorem Kids.get {w : World} {p : Option Addr} {ts : List AT} (h : Kids w p ts) (i : Nat) (hi : i < ts.length) :
    ∃ b o v, p = some ⟨b, o, none⟩ ∧ AtIs w (tget ts i).h v (tget ts i).ks.length (tget ts i) ∧ At19 w b (o + i * 19) (tget ts i).h v (tget ts i).ks.length := by
  cases h with
  | nokids => simp at hi
  | atkids b o _ v hh hc hl hk =>
    have hci := hc i hi
    exact ⟨b, o, v i, rfl, ⟨rfl, rfl, hh i hi, hl i hi, hk i hi⟩, hci 0 _ rfl, hci 1 _ rfl, hci 2 _ rfl, hci 3 _ rfl, hci 4 _ rfl, hci 5 _ rfl, hci 6 _ rfl, hci 7 _ rfl, hci 8 _ rfl, hci 9 _ rfl, hci 10 _ rfl, hci 11 _ rfl, hci 12 _ rfl, hci 13 _ rfl, hci 14 _ rfl, hci 15 _ rfl, hci 16 _ rfl, hci 17 _ rfl, hci 18 _ rfl⟩
/-- As the whole range of its cells. -/
theorem Kids.load {w : World} {p : Option Addr} {ts : List AT} (h : Kids w p ts) (i : Nat) (hi : i < ts.length) :
    ∃ b o v, p = some ⟨b, o, none⟩ ∧ AtIs w (tget ts i).h v (tget ts i).ks.length (tget ts i) ∧ w.rangeAt b (o + i * 19) (acells (tget ts i).h v (tget ts i).ks.length) := by
  cases h with
  | nokids => simp at hi
  | atkids b o _ v hh hc hl hk => exact ⟨b, o, v i, rfl, ⟨rfl, rfl, hh i hi, hl i hi, hk i hi⟩, fun j x hx => hc i hi j x hx⟩
theorem Kids.stay {w W : World} {p : Option Addr} {ts : List AT} (h : Kids w p ts) (hb : Below w.heap.size w W) : Kids W p ts := by
  induction h with
  | nokids p => exact .nokids p
  | atkids b o ts v hh hc hl hk ih =>
    refine .atkids b o ts v (fun i hi => (hh i hi).below hb) (fun i hi j x hv => ?_) hl (fun i hi => ih i hi)
    have h0 := hc i hi j x hv
    exact (hb.cell (p := ⟨b, o + i * 19 + j, none⟩) (World.block_lt_of_cell? w _ h0)).trans h0
theorem AtIs.below {w W : World} {h : Hd} {v : V} {l : Nat} {t : AT} (k : AtIs w h v l t) (hb : Below w.heap.size w W) : AtIs W h v l t := ⟨k.head, k.len, k.ok.below hb, k.cap, k.kids.stay hb⟩

/-! ### How an argument is seen -/
theorem list19 {α : Type} {l : List α} (h : l.length = 19) : ∃ c0 c1 c2 c3 c4 c5 c6 c7 c8 c9 c10 c11 c12 c13 c14 c15 c16 c17 c18, l = [c0, c1, c2, c3, c4, c5, c6, c7, c8, c9, c10, c11, c12, c13, c14, c15, c16, c17, c18] := by
  match l, h with
  | [c0, c1, c2, c3, c4, c5, c6, c7, c8, c9, c10, c11, c12, c13, c14, c15, c16, c17, c18], _ => exact ⟨c0, c1, c2, c3, c4, c5, c6, c7, c8, c9, c10, c11, c12, c13, c14, c15, c16, c17, c18, rfl⟩
theorem atCells : Tryz.prog.cellsOf 31 = 19 := by kernel_rfl
theorem rowCells : Tryz.prog.cellsOf 24 = 1 := by kernel_rfl
theorem effCells : Tryz.prog.cellsOf 25 = 1 := by kernel_rfl
theorem kidCells : Tryz.prog.cellsOf 29 = 1 := by kernel_rfl
theorem atInfo : (Tryz.prog.info? 31).map (·.size) = some 19 := by kernel_rfl
/-- A term that is loaded. -/
theorem at_load {ops : Array Oper} {rest : List Oper} {op : Oper} {a : Act} {w : World} {Q : Exit → Act → World → Prop} (hgd : op.guard = none) (x : Operand) (ho : op.op = .load 31 x)
    (b o : Nat) (hx : a.eval x = .pointer (some ⟨b, o, none⟩)) {h : Hd} {v : V} {l : Nat} (hr : w.rangeAt b o (acells h v l))
    (k : wpList Tryz.prog ops Q rest (a.put op.dst (.agg #[.int .u8 h.h.k, .int .u8 h.h.op, .int .i64 h.h.pl, .int .i64 h.h.n, .string h.h.name, .string h.h.arg, .string h.h.exn, .int .i64 h.rho, .slice v.ra h.rhos.length v.rc, .slice v.ea h.e.length v.ec, .int .u8 h.ty.h.k, .int .i64 h.ty.h.r, .slice v.tea h.ty.h.e.length v.tec, .slice v.tka h.ty.ks.length v.tkc, .int .u8 h.re.h.k, .int .i64 h.re.h.r, .slice v.sea h.re.h.e.length v.sec, .slice v.ska h.re.ks.length v.skc, .slice v.ka l v.kc])) w) : wpList Tryz.prog ops Q (op :: rest) a w :=
  wpList_load_mid hgd 31 x ho b o hx (acells h v l) _ hr Tryz.underlying31 rfl atInfo k
theorem atFields : ∃ f0 f1 f2 f3 f4 f5 f6 : Field, Tryz.prog.underlying 31 = some (.struct #[f0, f1, f2, f3, f4, f5, f6]) ∧
    (f0.type = 23 ∧ f0.offset = 0) ∧ (Tryz.prog.underlying f1.type = some (.int .i64) ∧ f1.offset = 7 ∧ Tryz.prog.cellsOf f1.type = 1) ∧ (f2.type = 24 ∧ f2.offset = 8) ∧ (f3.type = 25 ∧ f3.offset = 9) ∧
    (f4.type = 28 ∧ f4.offset = 10) ∧ (f5.type = 28 ∧ f5.offset = 14) ∧ (f6.type = 29 ∧ f6.offset = 18) :=
  ⟨_, _, _, _, _, _, _, Tryz.underlying31, ⟨by kernel_rfl, by kernel_rfl⟩, ⟨by kernel_rfl, by kernel_rfl, by kernel_rfl⟩, ⟨by kernel_rfl, by kernel_rfl⟩, ⟨by kernel_rfl, by kernel_rfl⟩, ⟨by kernel_rfl, by kernel_rfl⟩, ⟨by kernel_rfl, by kernel_rfl⟩, ⟨by kernel_rfl, by kernel_rfl⟩⟩

section
variable {H : Type} {enc : TypeId × Value → H} {w : World} {base : Nat} {sp : Nat → Bool} {held : Bool}
/-- A row of ints, of what reads as one. -/
theorem open_row {fuel : Nat} {cs : List Value} {y : DataW H × List MemPlace} (h : DataW.trod enc Tryz.prog w base sp held fuel 24 cs = some y) :
    ∃ p l c zs, cs = [.slice p l c] ∧ zs.length = l ∧ RdI w l p zs ∧ (l ≤ c ∧ c ≤ maxLen) := by
  rcases open_ints Tryz.underlying24 Tryz.underlying3 (by kernel_rfl) h with ⟨rfl, _⟩ | ⟨x, l, c, zs, hcs, _, hl, hm, hz, _, hcell, hwz⟩
  · exact ⟨none, 0, 0, [], rfl, rfl, ⟨rfl, .inl rfl, by simp⟩, by unfold maxLen; omega⟩
  · have hzl : l ≤ zs.length := by rw [hz]; split <;> omega
    have hl' : (zs.take l).length = l := by rw [List.length_take]; omega
    refine ⟨some x, l, c, zs.take l, hcs, hl', ⟨hl', ?_, fun y hy => Effect.wf_i64 (hwz y (List.mem_of_mem_take hy))⟩, hl, hm⟩
    by_cases h0 : l = 0
    · subst h0; exact .inl (by simp)
    · obtain ⟨b, o, s⟩ := x
      have hs : s = none := by
        have := World.cell?_spot (hcell 0 (by omega))
        simpa [Addr.add] using this
      subst hs
      refine .inr ⟨b, o, rfl, fun i hi => ?_⟩
      rw [hl'] at hi
      have := hcell i (by omega)
      rw [Addr.add_lit] at this
      rw [this]
      unfold Effect.nget
      rw [List.getD_eq_getElem?_getD, List.getD_eq_getElem?_getD, List.getElem?_take_of_lt hi]
theorem open_all : ∀ fuel : Nat,
    (∀ (cs : List Value) (y : DataW H × List MemPlace), DataW.trod enc Tryz.prog w base sp held fuel 31 cs = some y → ∃ h v l t, cs = acells h v l ∧ AtIs w h v l t) ∧
    (∀ (cs : List Value) (y : DataW H × List MemPlace), DataW.trod enc Tryz.prog w base sp held fuel 29 cs = some y → ∃ p l c ts, cs = [.slice p l c] ∧ ts.length = l ∧ l ≤ c ∧ c ≤ maxLen ∧ Kids w p ts) := by
  intro fuel
  induction fuel using Nat.strongRecOn with
  | _ fuel ih =>
    constructor
    · intro cs y h
      obtain ⟨f0, f1, f2, f3, f4, f5, f6, hu, ⟨t0, o0⟩, ⟨u1, o1, k1⟩, ⟨t2, o2⟩, ⟨t3, o3⟩, ⟨t4, o4⟩, ⟨t5, o5⟩, ⟨t6, o6⟩⟩ := atFields
      obtain ⟨xs, n, hfuel, _, hlen, hxl, hf⟩ := DataW.trod_struct hu h
      rw [atCells] at hlen
      obtain ⟨c0, c1, c2, c3, c4, c5, c6, c7, c8, c9, c10, c11, c12, c13, c14, c15, c16, c17, c18, rfl⟩ := list19 hlen
      have hxl' : xs.length = 7 := hxl
      obtain ⟨y0, y1, y2, y3, y4, y5, y6, rfl⟩ := Term.list7 hxl'
      have h0 := hf 0 f0 rfl
      have h1 := hf 1 f1 rfl
      have h2 := hf 2 f2 rfl
      have h3 := hf 3 f3 rfl
      have h4 := hf 4 f4 rfl
      have h5 := hf 5 f5 rfl
      have h6 := hf 6 f6 rfl
      rw [t0, Term.hdCells, o0] at h0
      rw [k1, o1] at h1
      rw [t2, rowCells, o2] at h2
      rw [t3, effCells, o3] at h3
      rw [t4, Rt.rtCells, o4] at h4
      rw [t5, Rt.rtCells, o5] at h5
      rw [t6, kidCells, o6] at h6
      have e0 : DataW.trod enc Tryz.prog w base sp held n 23 [c0, c1, c2, c3, c4, c5, c6] = some y0 := h0
      have e1 : DataW.trod enc Tryz.prog w base sp held n f1.type [c7] = some y1 := h1
      have e2 : DataW.trod enc Tryz.prog w base sp held n 24 [c8] = some y2 := h2
      have e3 : DataW.trod enc Tryz.prog w base sp held n 25 [c9] = some y3 := h3
      have e4 : DataW.trod enc Tryz.prog w base sp held n 28 [c10, c11, c12, c13] = some y4 := h4
      have e5 : DataW.trod enc Tryz.prog w base sp held n 28 [c14, c15, c16, c17] = some y5 := h5
      have e6 : DataW.trod enc Tryz.prog w base sp held n 29 [c18] = some y6 := h6
      obtain ⟨hd, hcs, hok⟩ := Term.open_hd e0
      obtain ⟨R, r1, _, g1⟩ := DataW.trod_int u1 e1
      injection r1 with r1
      subst r1
      obtain ⟨ra, rl, rc, zs, hcs2, hzl, hzr, hzc⟩ := open_row e2
      injection hcs2 with hcs2
      subst hcs2
      obtain ⟨pe, ne, ce, es, hcs3, hes, hcap⟩ := Effect.open_row2 e3
      injection hcs3 with hcs3
      subst hcs3
      obtain ⟨th, tea, tne, tec, tka, tl, tkc, ty, hcs4, hty⟩ := (Rt.open_all n).1 _ _ e4
      obtain ⟨sh, sea, sne, sec, ska, sl, skc, re, hcs5, hre⟩ := (Rt.open_all n).1 _ _ e5
      obtain ⟨p, l, c, ts, hcs6, hl, hlc, hcm, hk⟩ := (ih n (by omega)).2 _ _ e6
      injection hcs6 with hcs6
      subst hcs6
      have a1 := hty.head; have a2 := hty.elen; have a3 := hty.len
      have b1 := hre.head; have b2 := hre.elen; have b3 := hre.len
      subst a1 a2 a3 b1 b2 b3
      unfold Term.hcells at hcs
      unfold Rt.rcells at hcs4 hcs5
      simp only [List.cons.injEq, and_true] at hcs hcs4 hcs5
      obtain ⟨rfl, rfl, rfl, rfl, rfl, rfl, rfl⟩ := hcs
      obtain ⟨rfl, rfl, rfl, rfl⟩ := hcs4
      obtain ⟨rfl, rfl, rfl, rfl⟩ := hcs5
      obtain rfl := hzl
      have hel := hes.1
      obtain rfl := hel
      exact ⟨⟨hd, R, zs, es, ty, re⟩, ⟨ra, rc, pe, ce, tea, tec, tka, tkc, sea, sec, ska, skc, p, c⟩, l, .node ⟨hd, R, zs, es, ty, re⟩ ts, rfl, ⟨rfl, hl, ⟨hok, Effect.wf_i64 g1, hzr, hzc, ⟨hes.rd, hcap⟩, hes.2.2.2, hty, hre⟩, ⟨hlc, hcm⟩, hk⟩⟩
    · intro cs y h
      rcases DataW.trod_slice Tryz.underlying29 h with ⟨rfl, _⟩ | ⟨a, len, cap, elems, rest, n, hfuel, rfl, _, hb, hl, hm, hlen, hel, _, _⟩
      · exact ⟨none, 0, 0, [], rfl, rfl, Nat.le_refl _, by unfold maxLen; omega, Kids.nokids _⟩
      · have each : ∀ i, i < len → ∃ h v l t, AtIs w h v l t ∧ ∀ j x, (acells h v l)[j]? = some x → w.cell? ((a.add (i * 19)).add j) = some x := by
          intro i hi
          have he := hel i hi
          rw [atCells, List.getElem?_eq_getElem (by omega)] at he
          obtain ⟨cs', hc, ht⟩ := Option.bind_eq_some_iff.1 he
          obtain ⟨h, v, l, t, rfl, hT⟩ := (ih n (by omega)).1 _ _ ht
          obtain ⟨_, _, hcell⟩ := World.cells?_some hc
          refine ⟨h, v, l, t, hT, fun j x hv => ?_⟩
          have hj : j < 19 := by
            rcases Nat.lt_or_ge j 19 with h | h
            · exact h
            · rw [List.getElem?_eq_none (by simpa [acells] using h)] at hv; cases hv
          rw [hcell j hj, hv]
        have each' : ∀ i, ∃ r : V × AT, i < len → AtIs w r.2.h r.1 r.2.ks.length r.2 ∧ ∀ j x, (acells r.2.h r.1 r.2.ks.length)[j]? = some x → w.cell? ((a.add (i * 19)).add j) = some x := by
          intro i
          by_cases hi : i < len
          · obtain ⟨h, v, l, t, hT, hc⟩ := each i hi
            have e1 := hT.head
            have e2 := hT.len
            subst e1 e2
            exact ⟨(v, t), fun _ => ⟨hT, hc⟩⟩
          · exact ⟨(v0, .node hd0 []), fun h => absurd h hi⟩
        obtain ⟨R, hR⟩ := Classical.axiomOfChoice each'
        obtain ⟨F, hFd⟩ : ∃ F : Nat → AT, F = fun i => (R i).2 := ⟨_, rfl⟩
        obtain ⟨Q, hQd⟩ : ∃ Q : Nat → V, Q = fun i => (R i).1 := ⟨_, rfl⟩
        have hF : ∀ i, i < len → AtIs w (F i).h (Q i) (F i).ks.length (F i) ∧ ∀ j x, (acells (F i).h (Q i) (F i).ks.length)[j]? = some x → w.cell? ((a.add (i * 19)).add j) = some x := by
          subst hFd hQd
          exact hR
        have hlen' : ((List.range len).map F).length = len := by simp
        have hget : ∀ i, i < len → tget ((List.range len).map F) i = F i := by
          intro i hi
          unfold tget
          rw [List.getD_eq_getElem?_getD, List.getElem?_map, List.getElem?_range hi]
          rfl
        refine ⟨some a, len, cap, (List.range len).map F, rfl, hlen', hl, hm, ?_⟩
        by_cases h0 : len = 0
        · subst h0; exact .nokids _
        · obtain ⟨b, o, s⟩ := a
          have h1 := (hF 0 (by omega)).2 0 _ rfl
          have hs : s = none := by
            have := World.cell?_spot h1
            simpa [Addr.add] using this
          subst hs
          refine .atkids b o _ Q (fun i hi => ?_) (fun i hi j x hv => ?_) (fun i hi => ?_) (fun i hi => ?_)
          · rw [hlen'] at hi; rw [hget i hi]; exact (hF i hi).1.ok
          · rw [hlen'] at hi; rw [hget i hi] at hv
            have := (hF i hi).2 j x hv
            rw [Addr.add_lit, Addr.add_lit] at this
            exact this
          · rw [hlen'] at hi; rw [hget i hi]; exact (hF i hi).1.cap
          · rw [hlen'] at hi; rw [hget i hi]; exact (hF i hi).1.kids

/-! ### Arguments -/
theorem open_at {fuel : Nat} {cs : Array Value} {y : DataW H × List MemPlace} (h : DataW.trod enc Tryz.prog w base sp held fuel 31 (Value.agg cs).cells.toList = some y) :
    ∃ h v l t, cs = (acells h v l).toArray ∧ AtIs w h v l t := by
  obtain ⟨hd, v, l, t, hc, hT⟩ := (open_all fuel).1 _ _ h
  refine ⟨hd, v, l, t, ?_, hT⟩
  have h1 : cs.toList = acells hd v l := hc
  exact Array.toList_inj.1 h1
/-- A slice of terms, as memory holds it. -/
def IsAts (w : World) (a : Option Addr) (len cap : Nat) (ts : List AT) : Prop := ts.length = len ∧ len ≤ cap ∧ cap ≤ maxLen ∧ Kids w a ts
theorem open_ats {fuel : Nat} {a : Option Addr} {len cap : Nat} {y : DataW H × List MemPlace} (h : DataW.trod enc Tryz.prog w base sp held fuel 29 (Value.slice a len cap).cells.toList = some y) : ∃ ts, IsAts w a len cap ts := by
  obtain ⟨p, l, c, ts, hc, h1, h2, h3, h4⟩ := (open_all fuel).2 _ _ h
  have h5 : [Value.slice a len cap] = [.slice p l c] := hc
  injection h5 with h5
  injection h5 with e1 e2 e3
  subst e1 e2 e3
  exact ⟨ts, h1, h2, h3, h4⟩
end
end Aterm
end Go.Proofs.YtolpdhkgkjnbfaaGreatDoor

namespace Go.Proofs.YtolpdhkgkjnbfaaGreatDoor
open Go.RowKit
set_option linter.unusedVariables false
set_option linter.unusedSimpArgs false
namespace Effect

/-- One element of a row of one's own. -/
theorem Row.cell {B n c : Nat} {W : World} {a : Option Addr} {l : List At} (h : Row B W (.slice a n c) l) {j : Nat} (hj : j < l.length) : ∃ g, a = some ⟨g, 0, none⟩ ∧ B ≤ g ∧ g < W.heap.size ∧ (W.cell? ⟨g, j * 3, none⟩ = some (.int .u8 (aget l j).k) ∧ W.cell? ⟨g, j * 3 + 1, none⟩ = some (.int .i64 (aget l j).r) ∧ W.cell? ⟨g, j * 3 + 2, none⟩ = some (.string (aget l j).x)) ∧ W.frozen? ⟨g, j * 3 + 1, none⟩ = false := by
  rcases h.2 with ⟨_, h0⟩ | ⟨g, cap, cur, hv, hb, hg, h1, h2, h3, h4⟩
  · omega
  · injection hv with hv1 hv2 hv3
    subst hv1
    have key : ∀ i, i < 3 → ∀ u, (enc (aget l j))[i]? = some u → W.cell? ⟨g, j * 3 + i, none⟩ = some u := fun i hi u hu => by
      have := h.cells (g := g) rfl (j * 3 + i) u (by rw [flat_get l j hj i hi]; exact hu)
      rw [Addr.add_lit] at this
      simpa using this
    refine ⟨g, rfl, hb, lt_of_block hg, ⟨key 0 (by omega) _ rfl, key 1 (by omega) _ rfl, key 2 (by omega) _ rfl⟩, ?_⟩
    simp [World.frozen?, hg]
theorem flat_set (l : List At) (j : Nat) (r : Int) (hj : j < l.length) : flat (l.set j { aget l j with r := r }) = (flat l).set (j * 3 + 1) (.int .i64 r) := by
  apply List.ext_getElem?
  intro t
  by_cases ht : t < l.length * 3
  · have e := flat_get (l.set j { aget l j with r := r }) (t / 3) (by rw [List.length_set]; omega) (t % 3) (Nat.mod_lt t (by omega))
    rw [show t / 3 * 3 + t % 3 = t by omega] at e
    rw [e]
    have e2 := flat_get l (t / 3) (by omega) (t % 3) (Nat.mod_lt t (by omega))
    rw [show t / 3 * 3 + t % 3 = t by omega] at e2
    rw [List.getElem?_set]
    by_cases hq : t / 3 = j
    · have ea : aget (l.set j { aget l j with r := r }) (t / 3) = { aget l j with r := r } := by
        unfold aget; rw [List.getD_eq_getElem?_getD, List.getElem?_set, if_pos hq.symm, if_pos hj]; rfl
      rw [ea]
      by_cases h1 : j * 3 + 1 = t
      · rw [if_pos h1, if_pos (by rw [flat_len]; omega), show t % 3 = 1 by omega]; rfl
      · rw [if_neg h1, e2, hq]
        rcases (by omega : t % 3 = 0 ∨ t % 3 = 2) with q | q <;> rw [q] <;> rfl
    · have ea : aget (l.set j { aget l j with r := r }) (t / 3) = aget l (t / 3) := by
        unfold aget; rw [List.getD_eq_getElem?_getD, List.getElem?_set, if_neg (fun e => hq e.symm), List.getD_eq_getElem?_getD]
      rw [ea, if_neg (by omega), e2]
  · rw [List.getElem?_eq_none (by rw [flat_len, List.length_set]; omega), List.getElem?_eq_none (by rw [List.length_set, flat_len]; omega)]
theorem Row.set {B n c g : Nat} {W : World} {l : List At} (h : Row B W (.slice (some ⟨g, 0, none⟩) n c) l) {j : Nat} (hj : j < l.length) (r : Int) : Row B (W.setCell ⟨g, j * 3 + 1, none⟩ (.int .i64 r)) (.slice (some ⟨g, 0, none⟩) n c) (l.set j { aget l j with r := r }) := by
  rcases h.2 with ⟨_, h0⟩ | ⟨g', cap, cur, hv, hb, hg, h1, h2, h3, h4⟩
  · omega
  · injection hv with hv1 hv2 hv3
    injection hv1 with hv1; injection hv1 with hv1
    subst hv1 hv3
    refine ⟨by rw [flat_len], .inr ⟨g, c, cur.setIfInBounds (j * 3 + 1) (.int .i64 r), by rw [List.length_set, hv2], hb, heap_setCell_same W g (j * 3 + 1) cur _ _ hg, by rw [List.length_set]; exact h1, h2, by simpa using h3, ?_⟩⟩
    rw [flat_set l j r hj, List.length_set, Array.toList_setIfInBounds, List.take_set, h4]
end Effect
end Go.Proofs.YtolpdhkgkjnbfaaGreatDoor
namespace Go.Proofs.YtolpdhkgkjnbfaaGreatDoor
open Go.RowKit Go.Sort Go.Shelf Go.Lib
set_option linter.unusedVariables false
set_option linter.unusedSimpArgs false
namespace Effect

/-- A row of texts that is read. -/
structure RdS (w : World) (n : Nat) (p : Option Addr) (l : List ByteArray) : Prop where
  len : l.length = n
  at_ : l = [] ∨ ∃ b o, p = some ⟨b, o, none⟩ ∧ ∀ i, i < l.length → w.cell? ⟨b, o + i, none⟩ = some (.string (l.getD i ByteArray.empty))
theorem RdS.below {w W : World} {n : Nat} {p : Option Addr} {l : List ByteArray} (h : RdS w n p l) (hb : Below w.heap.size w W) : RdS W n p l := by
  refine ⟨h.len, h.at_.imp id ?_⟩
  rintro ⟨b, o, hp, hc⟩
  exact ⟨b, o, hp, fun i hi => (hb.cell (p := ⟨b, _, none⟩) (World.block_lt_of_cell? w _ (hc i hi))).trans (hc i hi)⟩
end Effect
end Go.Proofs.YtolpdhkgkjnbfaaGreatDoor

namespace Go.Proofs.YtolpdhkgkjnbfaaGreatDoor
open Go.RowKit
set_option linter.unusedVariables false
set_option linter.unusedSimpArgs false
namespace Effect

def intsV (l : List Int) : List Value := l.map (Value.int .i64)
/-- A row of numbers of one's own. -/
def Ixs (B : Nat) (W : World) (v : Value) (n : Nat) (l : List Int) : Prop := W.ownsRow B 3 1 v n (intsV l)
theorem RdI.of_own {B n c : Nat} {W : World} {a : Option Addr} {l : List Int} (h : Ixs B W (.slice a n c) n l) (hok : ∀ x ∈ l, -9223372036854775808 ≤ x ∧ x ≤ 9223372036854775807) : RdI W n a l := by
  have hl : l.length = n := by have := h.1; unfold intsV at this; rw [List.length_map] at this; omega
  refine ⟨hl, ?_, hok⟩
  by_cases h0 : n = 0
  · left; exact List.eq_nil_of_length_eq_zero (by omega)
  · rcases h.2 with ⟨_, h0'⟩ | ⟨g, cap, cur, hv, hb, hg, h1, _⟩
    · omega
    · injection hv with hv1 hv2 hv3
      subst hv1
      refine .inr ⟨g, 0, rfl, fun i hi => ?_⟩
      have := h.cells (g := g) rfl i (.int .i64 (nget l i)) (by unfold intsV; rw [List.getElem?_map, nget_at hi]; rfl)
      rw [Addr.add_lit] at this
      exact this
end Effect
end Go.Proofs.YtolpdhkgkjnbfaaGreatDoor

namespace Go.Proofs.YtolpdhkgkjnbfaaGreatDoor
open Go.RowKit
set_option linter.unusedVariables false
set_option linter.unusedSimpArgs false
namespace Effect

/-- Rows that are read. -/
structure RdR (w : World) (n : Nat) (p : Option Addr) (rs : List (List At)) : Prop where
  len : rs.length = n
  at_ : RowsAt w p rs
  ok : ∀ r ∈ rs, ∀ x ∈ r, x.x.size ≤ maxLen
  nn : ∀ r ∈ rs, r.length ≤ maxLen
theorem RdR.below {w W : World} {n : Nat} {p : Option Addr} {rs : List (List At)} (h : RdR w n p rs) (hb : Below w.heap.size w W) : RdR W n p rs := ⟨h.len, h.at_.below hb, h.ok, h.nn⟩
theorem RdR.row {w : World} {n : Nat} {p : Option Addr} {rs : List (List At)} (h : RdR w n p rs) (i : Nat) (hi : i < rs.length) : ∃ b o q c m, p = some ⟨b, o, none⟩ ∧ w.cell? ⟨b, o + i, none⟩ = some (.slice q m c) ∧ Rd w m q (rget rs i) ∧ m ≤ maxLen := by
  obtain ⟨b, o, q, c, hp, h1, h2⟩ := h.at_.get i hi
  exact ⟨b, o, q, c, _, hp, h1, ⟨rfl, h2, h.ok _ (rget_mem hi)⟩, h.nn _ (rget_mem hi)⟩
end Effect
end Go.Proofs.YtolpdhkgkjnbfaaGreatDoor
namespace Go.Proofs.YtolpdhkgkjnbfaaGreatDoor
open Go.RowKit
set_option linter.unusedVariables false
set_option linter.unusedSimpArgs false
namespace Effect

set_option maxRecDepth 100000 in
set_option maxHeartbeats 6400000 in
theorem equalInts_walk {n c m d : Nat} {a b : Option Addr} {l k : List Int} {w : World} (h : RdI w n a l) (h2 : RdI w m b k) (hn : n ≤ 100000) (hm : m ≤ 100000) (hlk : l = k) : Calls Tryz.prog 22 #[.slice a n c, .slice b m d] w fun e w' => e = .returned (.bool true) ∧ Below w.heap.size w w' := by
  have mixed : Tryz.prog.follows .mixedOrders = true := by kernel_rfl
  subst hlk
  obtain rfl : n = m := by rw [← h.len, ← h2.len]
  have H := Lib.hid h; have H2 := Lib.hid h2
  clear h h2
  go_enter Tryz.func22, Tryz.ntmps22
  go_wp2_with (fail)
  go_loopg [5, 13] n (fun gh _ i wr => ∃ j q : Nat, j ≤ n ∧ n - j ≤ gh ∧ i = .int .i64 (j : Int) ∧ wr = w.drewN q)
  case atStart => exact ⟨0, 0, Nat.zero_le _, by omega, rfl, rfl⟩
  case round =>
    obtain ⟨j, q, hj, hgh, rfl, rfl⟩ := hrel
    by_cases hlt : j < n
    · have hjl : j < l.length := by rw [H.out.len]; exact hlt
      obtain ⟨b1, o1, rfl, e0⟩ := H.out.get j hjl
      obtain ⟨b2, o2, rfl, e1⟩ := H2.out.get j hjl
      generalize nget l j = x at *
      have hxx : (x == x) = true := by simp
      clear hjl
      go_wp2_with (fail)
      go_region_o
      clear hxx e0 e1
      go_wp2_with (fail)
      go_roundg (n - (j + 1))
      case measure => omega
      case rel => exact ⟨j + 1, q + 1, by omega, by omega, by go_num, rfl⟩
    · go_wp2_with (fail)
      go_ret
      exact ⟨rfl, ⟨rfl, rfl, rfl, Nat.le_refl _, fun _ _ => rfl⟩⟩
/-! ### A rising row with one more -/
end Effect
end Go.Proofs.YtolpdhkgkjnbfaaGreatDoor
namespace Go.Proofs.YtolpdhkgkjnbfaaGreatDoor
open Go.RowKit Go.ChangeShapes Go.WideShapes Go.Deep
set_option linter.unusedVariables false
namespace Types

/-- A node's own fields. -/
structure Hd where
  k : Int
  v : Int
inductive Ty where
  | node : Hd → List Ty → Ty
def Ty.h : Ty → Hd
  | .node h _ => h
def Ty.ks : Ty → List Ty
  | .node _ l => l
mutual
/-- How many nodes. -/
def wt : Ty → Nat
  | .node _ l => wts l + 1
def wts : List Ty → Nat
  | [] => 0
  | t :: ts => wt t + wts ts
end
theorem wt_pos (t : Ty) : 0 < wt t := by cases t; unfold wt; omega
theorem wt_ks (t : Ty) : wt t = wts t.ks + 1 := by cases t; unfold wt; rfl
theorem wts_nil : wts [] = 0 := by unfold wts; rfl
theorem wts_cons (t : Ty) (ts : List Ty) : wts (t :: ts) = wt t + wts ts := by conv => lhs; unfold wts
/-- Type i of some. -/
def tget (ts : List Ty) (i : Nat) : Ty := ts.getD i (.node ⟨0, 0⟩ [])
theorem tget_at {ts : List Ty} {i : Nat} (h : i < ts.length) : ts[i]? = some (tget ts i) := by
  unfold tget
  rw [List.getD_eq_getElem?_getD, List.getElem?_eq_getElem h]
  rfl
theorem tget_mem {ts : List Ty} {i : Nat} (h : i < ts.length) : tget ts i ∈ ts := List.mem_of_getElem? (tget_at h)
theorem wts_mem : ∀ {ts : List Ty} {t : Ty}, t ∈ ts → wt t ≤ wts ts
  | t :: ts, u, h => by
    rw [wts_cons]
    rcases List.mem_cons.1 h with rfl | h
    · omega
    · have := wts_mem h; omega
theorem wts_get {ts : List Ty} {i : Nat} (h : i < ts.length) : wt (tget ts i) ≤ wts ts := wts_mem (tget_mem h)

/-- A type's three cells. -/
def tcells (h : Hd) (p : Option Addr) (l c : Nat) : List Value := [.int .u8 h.k, .int .i64 h.v, .slice p l c]
/-- Its numbers are of their kinds. -/
structure HdOk (h : Hd) : Prop where
  k : 0 ≤ h.k ∧ h.k ≤ 255
  v : -9223372036854775808 ≤ h.v ∧ h.v ≤ 9223372036854775807

/-- A slice's types, and theirs, as memory holds them: nothing is asked of an empty one. -/
inductive Kids (w : World) : Option Addr → List Ty → Prop where
  | nokids (p : Option Addr) : Kids w p []
  | atkids (b o : Nat) (ts : List Ty) (q : Nat → Option Addr) (c : Nat → Nat)
      (hh : ∀ i, i < ts.length → HdOk (tget ts i).h)
      (hc : ∀ i, i < ts.length → ∀ j v, (tcells (tget ts i).h (q i) (tget ts i).ks.length (c i))[j]? = some v → w.cell? ⟨b, o + i * 3 + j, none⟩ = some v)
      (hl : ∀ i, i < ts.length → (tget ts i).ks.length ≤ c i ∧ c i ≤ maxLen)
      (hk : ∀ i, i < ts.length → Kids w (q i) (tget ts i).ks) : Kids w (some ⟨b, o, none⟩) ts

/-- A type by value: its fields, and its kids. -/
structure TyIs (w : World) (h : Hd) (p : Option Addr) (l c : Nat) (t : Ty) : Prop where
  head : t.h = h
  len : t.ks.length = l
  ok : HdOk h
  cap : l ≤ c ∧ c ≤ maxLen
  kids : Kids w p t.ks

theorem Kids.get {w : World} {p : Option Addr} {ts : List Ty} (h : Kids w p ts) (i : Nat) (hi : i < ts.length) :
    ∃ b o q c, p = some ⟨b, o, none⟩ ∧ TyIs w (tget ts i).h q (tget ts i).ks.length c (tget ts i) ∧
      w.cell? ⟨b, o + i * 3, none⟩ = some (.int .u8 (tget ts i).h.k) ∧ w.cell? ⟨b, o + i * 3 + 1, none⟩ = some (.int .i64 (tget ts i).h.v) ∧ w.cell? ⟨b, o + i * 3 + 2, none⟩ = some (.slice q (tget ts i).ks.length c) := by
  cases h with
  | nokids => simp at hi
  | atkids b o _ q c hh hc hl hk =>
    have hci := hc i hi
    exact ⟨b, o, q i, c i, rfl, ⟨rfl, rfl, hh i hi, hl i hi, hk i hi⟩, hci 0 _ rfl, hci 1 _ rfl, hci 2 _ rfl⟩
theorem Kids.stay {w W : World} {p : Option Addr} {ts : List Ty} (h : Kids w p ts) (hb : Below w.heap.size w W) : Kids W p ts := by
  induction h with
  | nokids p => exact .nokids p
  | atkids b o ts q c hh hc hl hk ih =>
    refine .atkids b o ts q c hh (fun i hi j v hv => ?_) hl (fun i hi => ih i hi)
    have h0 := hc i hi j v hv
    exact (hb.cell (p := ⟨b, o + i * 3 + j, none⟩) (World.block_lt_of_cell? w _ h0)).trans h0
theorem TyIs.below {w W : World} {h : Hd} {p : Option Addr} {l c : Nat} {t : Ty} (k : TyIs w h p l c t) (hb : Below w.heap.size w W) : TyIs W h p l c t := ⟨k.head, k.len, k.ok, k.cap, k.kids.stay hb⟩

/-! ### How an argument is seen -/
theorem list3 {α : Type} {l : List α} (h : l.length = 3) : ∃ a b c, l = [a, b, c] := by
  match l, h with
  | [a, b, c], _ => exact ⟨a, b, c, rfl⟩
section
variable {H : Type} {enc : TypeId × Value → H} {w : World} {base : Nat} {sp : Nat → Bool} {held : Bool}
theorem wf_u8 {n : Int} (h : (Lit.int .u8 n).wf = true) : 0 ≤ n ∧ n ≤ 255 := by
  simp [Lit.wf, IntKind.min, IntKind.max, IntKind.signed, IntKind.bits] at h
  omega
theorem wf_i64 {n : Int} (h : (Lit.int .i64 n).wf = true) : -9223372036854775808 ≤ n ∧ n ≤ 9223372036854775807 := by
  simp [Lit.wf, IntKind.min, IntKind.max, IntKind.signed, IntKind.bits] at h
  omega
end
theorem ret_i64 {a b : Int} (h : a = b) : Ending.returned (.int .i64 a) = .returned (.int .i64 b) := by rw [h]
theorem ret_bool {a b : Bool} (h : a = b) : Ending.returned (.bool a) = .returned (.bool b) := by rw [h]
theorem drop_tget (ts : List Ty) (k : Nat) (h : k < ts.length) : ts.drop k = tget ts k :: ts.drop (k + 1) := by
  rw [List.drop_eq_getElem_cons h]
  have := tget_at h
  rw [List.getElem?_eq_getElem h] at this
  rw [Option.some.inj this]
/-- A block just laid reads as it was laid, whatever came behind it. -/
theorem boxAt {w W : World} {cs : Array Value} {t : TypeId} (hb : Below (w.alloc (.cells cs t)).heap.size (w.alloc (.cells cs t)) W) (j : Nat) {v : Value} (hv : cs[j]? = some v) : W.cell? ⟨w.heap.size, j, none⟩ = some v := by
  have hlt : w.heap.size < (w.alloc (.cells cs t)).heap.size := by simp
  rw [hb.cell (p := ⟨w.heap.size, j, none⟩) hlt, World.cell?_alloc_mark, hv]

theorem take_tget (ts : List Ty) (k : Nat) (h : k < ts.length) : ts.take (k + 1) = ts.take k ++ [tget ts k] := by
  rw [List.take_add_one, tget_at h]; rfl
/-! ### Arguments -/
section
variable {H : Type} {enc : TypeId × Value → H} {w : World} {base : Nat} {sp : Nat → Bool} {held : Bool}
end
end Types
end Go.Proofs.YtolpdhkgkjnbfaaGreatDoor
namespace Go.Proofs.YtolpdhkgkjnbfaaGreatDoor
open Go.RowKit
set_option linter.unusedVariables false
namespace Types

/-! ### The bound -/
mutual
def leftT : Ty → Int → Int
  | .node h l, n => leftK l (n - 1)
def leftK : List Ty → Int → Int
  | [], n => n
  | t :: ts, n => if n < 0 then n else leftK ts (leftT t n)
end
theorem leftT_eq (t : Ty) (n : Int) : leftT t n = leftK t.ks (n - 1) := by cases t; unfold leftT; rfl
theorem leftK_nil (n : Int) : leftK [] n = n := by unfold leftK; rfl
theorem leftK_cons (t : Ty) (ts : List Ty) (n : Int) : leftK (t :: ts) n = if n < 0 then n else leftK ts (leftT t n) := by conv => lhs; unfold leftK
theorem leftK_neg (ts : List Ty) (n : Int) (h : n < 0) : leftK ts n = n := by
  cases ts with
  | nil => exact leftK_nil n
  | cons t ts => rw [leftK_cons, if_pos h]
theorem leftK_step (ts : List Ty) (k : Nat) (n : Int) (h : k < ts.length) (hn : ¬ n < 0) : leftK (ts.drop k) n = leftK (ts.drop (k + 1)) (leftT (tget ts k) n) := by
  rw [drop_tget ts k h, leftK_cons, if_neg hn]
theorem left_range : ∀ m : Nat, (∀ (t : Ty) (n : Int), wt t ≤ m → 0 ≤ n → -1 ≤ leftT t n ∧ leftT t n ≤ n) ∧ (∀ (ts : List Ty) (n : Int), wts ts ≤ m → -1 ≤ n → -1 ≤ leftK ts n ∧ leftK ts n ≤ n) := by
  intro m
  induction m with
  | zero =>
    refine ⟨fun t n h => by have := wt_pos t; omega, fun ts n h hn => ?_⟩
    cases ts with
    | nil => rw [leftK_nil]; omega
    | cons t ts => rw [wts_cons] at h; have := wt_pos t; omega
  | succ m ih =>
    have hT : ∀ (t : Ty) (n : Int), wt t ≤ m + 1 → 0 ≤ n → -1 ≤ leftT t n ∧ leftT t n ≤ n := by
      intro t n h hn
      rw [wt_ks] at h
      rw [leftT_eq]
      have := ih.2 t.ks (n - 1) (by omega) (by omega)
      omega
    refine ⟨hT, ?_⟩
    intro ts
    induction ts with
    | nil => intro n _ hn; rw [leftK_nil]; omega
    | cons t ts ihs =>
      intro n h hn
      rw [wts_cons] at h
      rw [leftK_cons]
      split
      · omega
      · rename_i h0
        have h1 := hT t n (by omega) (by omega)
        have h2 := ihs (leftT t n) (by omega) (by omega)
        omega
theorem left_small : ∀ m : Nat, (∀ (t : Ty) (n : Int), wt t ≤ m → 0 ≤ n → 0 ≤ leftT t n → leftT t n = n - wt t) ∧ (∀ (ts : List Ty) (n : Int), wts ts ≤ m → 0 ≤ n → 0 ≤ leftK ts n → leftK ts n = n - wts ts) := by
  intro m
  induction m with
  | zero =>
    refine ⟨fun t n h => by have := wt_pos t; omega, fun ts n h hn _ => ?_⟩
    cases ts with
    | nil => rw [leftK_nil, wts_nil]; omega
    | cons t ts => rw [wts_cons] at h; have := wt_pos t; omega
  | succ m ih =>
    have hT : ∀ (t : Ty) (n : Int), wt t ≤ m + 1 → 0 ≤ n → 0 ≤ leftT t n → leftT t n = n - wt t := by
      intro t n h hn h0
      rw [leftT_eq] at h0 ⊢
      by_cases hn1 : n - 1 < 0
      · rw [leftK_neg _ _ hn1] at h0; omega
      · have hk := wt_ks t
        have h1 := ih.2 t.ks (n - 1) (by omega) (by omega) h0
        omega
    refine ⟨hT, ?_⟩
    intro ts
    induction ts with
    | nil => intro n _ hn _; rw [leftK_nil, wts_nil]; omega
    | cons t ts ihs =>
      intro n h hn h0
      rw [wts_cons] at h ⊢
      rw [leftK_cons] at h0 ⊢
      rw [if_neg (by omega)] at h0 ⊢
      by_cases hx : leftT t n < 0
      · rw [leftK_neg _ _ hx] at h0; omega
      · have h1 := hT t n (by omega) hn (by omega)
        have h3 := ihs (leftT t n) (by omega) (by omega) h0
        omega
/-- Is it more than is gone through? -/
def greatB (t : Ty) : Bool := decide (leftT t 400 < 0)
/-- What is not great has 400 nodes at most. -/
theorem small_of {t : Ty} (h : greatB t = false) : wt t ≤ 400 := by
  unfold greatB at h
  have h' := of_decide_eq_false h
  have h1 := (left_small (wt t)).1 t 400 (Nat.le_refl _) (by omega) (by omega)
  omega

/-! ### All nodes -/
section
variable (B : Hd → Nat → Bool)
mutual
/-- Does it hold of each node? -/
def allT : Ty → Bool
  | .node h l => B h l.length && allK l
def allK : List Ty → Bool
  | [] => true
  | t :: ts => allT t && allK ts
end
theorem allT_eq (t : Ty) : allT B t = (B t.h t.ks.length && allK B t.ks) := by cases t; conv => lhs; unfold allT
                                                                               rfl
theorem allK_nil : allK B [] = true := by unfold allK; rfl
theorem allK_cons (t : Ty) (ts : List Ty) : allK B (t :: ts) = (allT B t && allK B ts) := by conv => lhs; unfold allK
theorem allK_step (ts : List Ty) (j : Nat) (h : j < ts.length) : allK B (ts.drop j) = (allT B (tget ts j) && allK B (ts.drop (j + 1))) := by
  rw [drop_tget ts j h, allK_cons]
theorem allK_no {ts : List Ty} {j : Nat} (hj : j < ts.length) (h : B (tget ts j).h (tget ts j).ks.length = false) : allK B (ts.drop j) = false := by
  rw [allK_step B ts j hj, allT_eq, h]; rfl
theorem allK_kno {ts : List Ty} {j : Nat} (hj : j < ts.length) (hk : allK B (tget ts j).ks = false) : allK B (ts.drop j) = false := by
  rw [allK_step B ts j hj, allT_eq, hk]; simp
theorem allK_yes {ts : List Ty} {j : Nat} (hj : j < ts.length) (h : B (tget ts j).h (tget ts j).ks.length = true) (hk : allK B (tget ts j).ks = true) : allK B (ts.drop j) = allK B (ts.drop (j + 1)) := by
  rw [allK_step B ts j hj, allT_eq, h, hk]; rfl
theorem allK_get {ts : List Ty} {j : Nat} (hj : j < ts.length) (h : allK B ts = true) : allT B (tget ts j) = true := by
  induction ts generalizing j with
  | nil => simp at hj
  | cons t ts ih =>
    rw [allK_cons, Bool.and_eq_true] at h
    cases j with
    | zero => exact h.1
    | succ j => exact ih (by simpa using hj) h.2
end
/-- How many kids a kind has. -/
def kidsN (k : Int) : Int := if k = 1 ∨ k = 5 then 0 else if k = 3 then 1 else if k = 2 ∨ k = 4 then 2 else -1
/-- May a node be, its kids left out? -/
def nodeB (h : Hd) (n : Nat) : Bool := decide ((n : Int) = kidsN h.k ∧ 0 ≤ h.v ∧ (h.v ≤ 0 ∨ h.k = 5))
abbrev mayT : Ty → Bool := allT nodeB
abbrev mayK : List Ty → Bool := allK nodeB
/-! ### Sameness -/
mutual
def sameT : Ty → Ty → Bool
  | .node h l, u => decide (h.k = u.h.k ∧ h.v = u.h.v) && decide (l.length = u.ks.length) && sameK l u.ks
def sameK : List Ty → List Ty → Bool
  | [], _ => true
  | _ :: _, [] => true
  | t :: ts, u :: us => sameT t u && sameK ts us
end
theorem sameT_eq (t u : Ty) : sameT t u = (decide (t.h.k = u.h.k ∧ t.h.v = u.h.v) && decide (t.ks.length = u.ks.length) && sameK t.ks u.ks) := by
  cases t
  conv => lhs; unfold sameT
  rfl
theorem sameK_cons (t u : Ty) (ts us : List Ty) : sameK (t :: ts) (u :: us) = (sameT t u && sameK ts us) := by conv => lhs; unfold sameK
theorem sameK_nil (us : List Ty) : sameK [] us = true := by conv => lhs; unfold sameK
theorem sameK_step (ts us : List Ty) (j : Nat) (h1 : j < ts.length) (h2 : j < us.length) : sameK (ts.drop j) (us.drop j) = (sameT (tget ts j) (tget us j) && sameK (ts.drop (j + 1)) (us.drop (j + 1))) := by
  rw [drop_tget ts j h1, drop_tget us j h2, sameK_cons]
theorem sameK_no {ts us : List Ty} {j : Nat} (h1 : j < ts.length) (h2 : j < us.length) (h : sameT (tget ts j) (tget us j) = false) : sameK (ts.drop j) (us.drop j) = false := by
  rw [sameK_step ts us j h1 h2, h]; rfl
theorem sameK_go {ts us : List Ty} {j : Nat} (h1 : j < ts.length) (h2 : j < us.length) (h : sameT (tget ts j) (tget us j) = true) : sameK (ts.drop j) (us.drop j) = sameK (ts.drop (j + 1)) (us.drop (j + 1)) := by
  rw [sameK_step ts us j h1 h2, h]; rfl
/-- The same is equal. -/
theorem same_eq : ∀ m : Nat, (∀ t u, wt t ≤ m → (sameT t u = true ↔ t = u)) ∧ (∀ ts us : List Ty, wts ts ≤ m → ts.length = us.length → (sameK ts us = true ↔ ts = us)) := by
  intro m
  induction m with
  | zero =>
    refine ⟨fun t u h => by have := wt_pos t; omega, fun ts us h hl => ?_⟩
    cases ts with
    | nil => cases us with
      | nil => rw [sameK_nil]; simp
      | cons u us => simp at hl
    | cons t ts => rw [wts_cons] at h; have := wt_pos t; omega
  | succ m ih =>
    have hT : ∀ t u, wt t ≤ m + 1 → (sameT t u = true ↔ t = u) := by
      intro t u h
      have hk := wt_ks t
      rw [sameT_eq]
      obtain ⟨⟨k, v⟩, l⟩ := t
      obtain ⟨⟨k', v'⟩, l'⟩ := u
      simp only [Ty.h, Ty.ks, Bool.and_eq_true] at hk ⊢
      constructor
      · rintro ⟨⟨h1, hl⟩, hs⟩
        obtain ⟨rfl, rfl⟩ := of_decide_eq_true h1
        have hl := of_decide_eq_true hl
        rw [((ih.2 l l' (by omega) hl).1 hs)]
      · intro e
        injection e with e1 e2
        injection e1 with e3 e4
        subst e2 e3 e4
        exact ⟨⟨decide_eq_true ⟨rfl, rfl⟩, decide_eq_true rfl⟩, (ih.2 l l (by omega) rfl).2 rfl⟩
    refine ⟨hT, fun ts => ?_⟩
    induction ts with
    | nil => intro us _ hl; cases us with
      | nil => rw [sameK_nil]; simp
      | cons u us => simp at hl
    | cons t ts ihs =>
      intro us h hl
      rw [wts_cons] at h
      cases us with
      | nil => simp at hl
      | cons u us =>
        rw [sameK_cons, Bool.and_eq_true, hT t u (by omega), ihs us (by omega) (by simpa using hl)]
        simp
theorem same_iff (t u : Ty) : sameT t u = true ↔ t = u := (same_eq (wt t)).1 t u (Nat.le_refl _)
theorem same_self (t : Ty) : sameT t t = true := (same_iff t t).2 rfl
theorem same_comm (t u : Ty) : sameT t u = sameT u t := by
  cases h : sameT u t
  · rw [Bool.eq_false_iff] at h ⊢
    exact fun e => h ((same_iff u t).2 ((same_iff t u).1 e).symm)
  · exact (same_iff t u).2 ((same_iff u t).1 h).symm

/-! ### Words -/
theorem bytes_ext {s t : ByteArray} (h : s.data.toList = t.data.toList) : s = t := by
  cases s; cases t
  simp at h
  simp [h]
end Types
end Go.Proofs.YtolpdhkgkjnbfaaGreatDoor
namespace Go.Proofs.YtolpdhkgkjnbfaaGreatDoor
open Go.RowKit
set_option linter.unusedVariables false
set_option linter.unusedSimpArgs false
namespace Rt
open Effect (At AtOk AtsAt Rd ofA greatB)

/-! ### The bound -/
mutual
def leftT : RT → Int → Int
  | .node h l, n => if greatB h.e = true then -1 else leftK l (n - 1)
def leftK : List RT → Int → Int
  | [], n => n
  | t :: ts, n => if n < 0 then n else leftK ts (leftT t n)
end
theorem leftT_eq (t : RT) (n : Int) : leftT t n = if greatB t.h.e = true then -1 else leftK t.ks (n - 1) := by cases t; unfold leftT; rfl
theorem leftK_nil (n : Int) : leftK [] n = n := by unfold leftK; rfl
theorem leftK_cons (t : RT) (ts : List RT) (n : Int) : leftK (t :: ts) n = if n < 0 then n else leftK ts (leftT t n) := by conv => lhs; unfold leftK
theorem leftK_neg (ts : List RT) (n : Int) (h : n < 0) : leftK ts n = n := by
  cases ts with
  | nil => exact leftK_nil n
  | cons t ts => rw [leftK_cons, if_pos h]
theorem leftK_step (ts : List RT) (k : Nat) (n : Int) (h : k < ts.length) (hn : ¬ n < 0) : leftK (ts.drop k) n = leftK (ts.drop (k + 1)) (leftT (tget ts k) n) := by
  rw [drop_tget ts k h, leftK_cons, if_neg hn]
theorem left_range : ∀ m : Nat, (∀ (t : RT) (n : Int), wt t ≤ m → 0 ≤ n → -1 ≤ leftT t n ∧ leftT t n ≤ n) ∧ (∀ (ts : List RT) (n : Int), wts ts ≤ m → -1 ≤ n → -1 ≤ leftK ts n ∧ leftK ts n ≤ n) := by
  intro m
  induction m with
  | zero =>
    refine ⟨fun t n h => by have := wt_pos t; omega, fun ts n h hn => ?_⟩
    cases ts with
    | nil => rw [leftK_nil]; omega
    | cons t ts => rw [wts_cons] at h; have := wt_pos t; omega
  | succ m ih =>
    have hT : ∀ (t : RT) (n : Int), wt t ≤ m + 1 → 0 ≤ n → -1 ≤ leftT t n ∧ leftT t n ≤ n := by
      intro t n h hn
      rw [wt_ks] at h
      rw [leftT_eq]
      split
      · omega
      · have := ih.2 t.ks (n - 1) (by omega) (by omega)
        omega
    refine ⟨hT, ?_⟩
    intro ts
    induction ts with
    | nil => intro n _ hn; rw [leftK_nil]; omega
    | cons t ts ihs =>
      intro n h hn
      rw [wts_cons] at h
      rw [leftK_cons]
      split
      · omega
      · rename_i h0
        have h1 := hT t n (by omega) (by omega)
        have h2 := ihs (leftT t n) (by omega) (by omega)
        omega

/-! ### All nodes -/
section
variable (B : Hd → Nat → Bool)
mutual
/-- Does it hold of each node? -/
def allT : RT → Bool
  | .node h l => B h l.length && allK l
def allK : List RT → Bool
  | [] => true
  | t :: ts => allT t && allK ts
end
theorem allT_eq (t : RT) : allT B t = (B t.h t.ks.length && allK B t.ks) := by cases t; conv => lhs; unfold allT
                                                                               rfl
theorem allK_nil : allK B [] = true := by unfold allK; rfl
theorem allK_cons (t : RT) (ts : List RT) : allK B (t :: ts) = (allT B t && allK B ts) := by conv => lhs; unfold allK
theorem allK_step (ts : List RT) (j : Nat) (h : j < ts.length) : allK B (ts.drop j) = (allT B (tget ts j) && allK B (ts.drop (j + 1))) := by
  rw [drop_tget ts j h, allK_cons]
theorem allK_no {ts : List RT} {j : Nat} (hj : j < ts.length) (h : B (tget ts j).h (tget ts j).ks.length = false) : allK B (ts.drop j) = false := by
  rw [allK_step B ts j hj, allT_eq, h]; rfl
theorem allK_kno {ts : List RT} {j : Nat} (hj : j < ts.length) (hk : allK B (tget ts j).ks = false) : allK B (ts.drop j) = false := by
  rw [allK_step B ts j hj, allT_eq, hk]; simp
theorem allK_yes {ts : List RT} {j : Nat} (hj : j < ts.length) (h : B (tget ts j).h (tget ts j).ks.length = true) (hk : allK B (tget ts j).ks = true) : allK B (ts.drop j) = allK B (ts.drop (j + 1)) := by
  rw [allK_step B ts j hj, allT_eq, h, hk]; rfl
theorem allK_get {ts : List RT} {j : Nat} (hj : j < ts.length) (h : allK B ts = true) : allT B (tget ts j) = true := by
  induction ts generalizing j with
  | nil => simp at hj
  | cons t ts ih =>
    rw [allK_cons, Bool.and_eq_true] at h
    cases j with
    | zero => exact h.1
    | succ j => exact ih (by simpa using hj) h.2
end
/-- No effect is great. -/
def smallB (h : Hd) (_ : Nat) : Bool := !greatB h.e
theorem left_small : ∀ m : Nat, (∀ (t : RT) (n : Int), wt t ≤ m → 0 ≤ n → 0 ≤ leftT t n → leftT t n = n - wt t ∧ allT smallB t = true) ∧ (∀ (ts : List RT) (n : Int), wts ts ≤ m → 0 ≤ n → 0 ≤ leftK ts n → leftK ts n = n - wts ts ∧ allK smallB ts = true) := by
  intro m
  induction m with
  | zero =>
    refine ⟨fun t n h => by have := wt_pos t; omega, fun ts n h hn _ => ?_⟩
    cases ts with
    | nil => rw [leftK_nil, wts_nil, allK_nil]; exact ⟨by omega, rfl⟩
    | cons t ts => rw [wts_cons] at h; have := wt_pos t; omega
  | succ m ih =>
    have hT : ∀ (t : RT) (n : Int), wt t ≤ m + 1 → 0 ≤ n → 0 ≤ leftT t n → leftT t n = n - wt t ∧ allT smallB t = true := by
      intro t n h hn h0
      rw [leftT_eq] at h0 ⊢
      by_cases hg : greatB t.h.e = true
      · rw [if_pos hg] at h0; omega
      rw [if_neg hg] at h0 ⊢
      by_cases hn1 : n - 1 < 0
      · rw [leftK_neg _ _ hn1] at h0; omega
      · have hk := wt_ks t
        have h1 := ih.2 t.ks (n - 1) (by omega) (by omega) h0
        refine ⟨by omega, ?_⟩
        rw [allT_eq, h1.2]
        unfold smallB
        simp at hg
        rw [hg]; rfl
    refine ⟨hT, ?_⟩
    intro ts
    induction ts with
    | nil => intro n _ hn _; rw [leftK_nil, wts_nil, allK_nil]; exact ⟨by omega, rfl⟩
    | cons t ts ihs =>
      intro n h hn h0
      rw [wts_cons] at h ⊢
      rw [leftK_cons] at h0 ⊢
      rw [if_neg (by omega)] at h0 ⊢
      by_cases hx : leftT t n < 0
      · rw [leftK_neg _ _ hx] at h0; omega
      · have h1 := hT t n (by omega) hn (by omega)
        have h3 := ihs (leftT t n) (by omega) (by omega) h0
        refine ⟨by omega, ?_⟩
        rw [allK_cons, h1.2, h3.2]; rfl
/-- Is it more than is gone through? -/
def greatT (t : RT) : Bool := decide (leftT t 100 < 0)
theorem small_of {t : RT} (h : greatT t = false) : wt t ≤ 100 ∧ allT smallB t = true := by
  unfold greatT at h
  have h' := of_decide_eq_false h
  have h1 := (left_small (wt t)).1 t 100 (Nat.le_refl _) (by omega) (by omega)
  exact ⟨by omega, h1.2⟩
/-- All effects of up to n atoms, their texts of up to n bytes. -/
def effB (n : Nat) (h : Hd) (_ : Nat) : Bool := decide (h.e.length ≤ n) && h.e.all fun x => decide (x.x.size ≤ n)
theorem eff_iff {n : Nat} {h : Hd} {l : Nat} : effB n h l = true ↔ h.e.length ≤ n ∧ ∀ x ∈ h.e, x.x.size ≤ n := by
  unfold effB
  rw [Bool.and_eq_true, decide_eq_true_iff, List.all_eq_true]
  simp
theorem all_imp {A B : Hd → Nat → Bool} (hAB : ∀ h n, A h n = true → B h n = true) : ∀ m : Nat, (∀ t, wt t ≤ m → allT A t = true → allT B t = true) ∧ (∀ ts, wts ts ≤ m → allK A ts = true → allK B ts = true) := by
  intro m
  induction m with
  | zero =>
    refine ⟨fun t h => by have := wt_pos t; omega, fun ts h _ => ?_⟩
    cases ts with
    | nil => exact allK_nil _
    | cons t ts => rw [wts_cons] at h; have := wt_pos t; omega
  | succ m ih =>
    have hT : ∀ t, wt t ≤ m + 1 → allT A t = true → allT B t = true := by
      intro t h ha
      have hk := wt_ks t
      rw [allT_eq, Bool.and_eq_true] at ha ⊢
      exact ⟨hAB _ _ ha.1, ih.2 t.ks (by omega) ha.2⟩
    refine ⟨hT, fun ts => ?_⟩
    induction ts with
    | nil => intro _ _; exact allK_nil _
    | cons t ts ihs =>
      intro h ha
      rw [wts_cons] at h
      rw [allK_cons, Bool.and_eq_true] at ha ⊢
      exact ⟨hT t (by omega) ha.1, ihs (by omega) ha.2⟩
theorem small_eff {t : RT} (h : greatT t = false) : wt t ≤ 100 ∧ allT (effB 100) t = true :=
  ⟨(small_of h).1, (all_imp (fun h n hh => eff_iff.2 (Effect.great_no (by unfold smallB at hh; simpa using hh))) _).1 t (Nat.le_refl _) (small_of h).2⟩

/-! ### May -/
/-- How many kids a kind has. -/
def kidsN (k : Int) : Int := if k = 1 then 0 else if k = 3 then 1 else if k = 2 ∨ k = 4 then 2 else -1
/-- May a node be, its kids left out? -/
def nodeB (h : Hd) (n : Nat) : Bool := decide ((n : Int) = kidsN h.k ∧ 0 ≤ h.r ∧ (h.k = 1 → h.r ≤ 0) ∧ (h.k ≠ 4 → h.e = []) ∧ h.e = ofA h.e)
abbrev mayT : RT → Bool := allT nodeB
abbrev mayK : List RT → Bool := allK nodeB
theorem mayK_nil : mayK [] = true := allK_nil _
/-! ### Sameness -/
mutual
def sameT : RT → RT → Bool
  | .node h l, u => decide (h.k = u.h.k) && decide (h.r = u.h.r) && decide (ofA h.e = ofA u.h.e) && decide (l.length = u.ks.length) && sameK l u.ks
def sameK : List RT → List RT → Bool
  | [], _ => true
  | _ :: _, [] => true
  | t :: ts, u :: us => sameT t u && sameK ts us
end
theorem sameT_eq (t u : RT) : sameT t u = (decide (t.h.k = u.h.k) && decide (t.h.r = u.h.r) && decide (ofA t.h.e = ofA u.h.e) && decide (t.ks.length = u.ks.length) && sameK t.ks u.ks) := by
  cases t
  conv => lhs; unfold sameT
  rfl
theorem sameK_cons (t u : RT) (ts us : List RT) : sameK (t :: ts) (u :: us) = (sameT t u && sameK ts us) := by conv => lhs; unfold sameK
theorem sameK_nil (us : List RT) : sameK [] us = true := by conv => lhs; unfold sameK
theorem sameK_step (ts us : List RT) (j : Nat) (h1 : j < ts.length) (h2 : j < us.length) : sameK (ts.drop j) (us.drop j) = (sameT (tget ts j) (tget us j) && sameK (ts.drop (j + 1)) (us.drop (j + 1))) := by
  rw [drop_tget ts j h1, drop_tget us j h2, sameK_cons]
theorem sameK_no {ts us : List RT} {j : Nat} (h1 : j < ts.length) (h2 : j < us.length) (h : sameT (tget ts j) (tget us j) = false) : sameK (ts.drop j) (us.drop j) = false := by
  rw [sameK_step ts us j h1 h2, h]; rfl
theorem sameK_go {ts us : List RT} {j : Nat} (h1 : j < ts.length) (h2 : j < us.length) (h : sameT (tget ts j) (tget us j) = true) : sameK (ts.drop j) (us.drop j) = sameK (ts.drop (j + 1)) (us.drop (j + 1)) := by
  rw [sameK_step ts us j h1 h2, h]; rfl
theorem same_comm_aux : ∀ m : Nat, (∀ t u, wt t ≤ m → sameT t u = sameT u t) ∧ (∀ ts us : List RT, wts ts ≤ m → ts.length = us.length → sameK ts us = sameK us ts) := by
  intro m
  induction m with
  | zero =>
    refine ⟨fun t u h => by have := wt_pos t; omega, fun ts us h hl => ?_⟩
    cases ts with
    | nil => cases us with
      | nil => rfl
      | cons u us => simp at hl
    | cons t ts => rw [wts_cons] at h; have := wt_pos t; omega
  | succ m ih =>
    have hT : ∀ t u, wt t ≤ m + 1 → sameT t u = sameT u t := by
      intro t u h
      have hk := wt_ks t
      rw [sameT_eq, sameT_eq]
      rw [show decide (t.h.k = u.h.k) = decide (u.h.k = t.h.k) from decide_eq_decide.2 eq_comm, show decide (t.h.r = u.h.r) = decide (u.h.r = t.h.r) from decide_eq_decide.2 eq_comm,
        show decide (ofA t.h.e = ofA u.h.e) = decide (ofA u.h.e = ofA t.h.e) from decide_eq_decide.2 eq_comm, show decide (t.ks.length = u.ks.length) = decide (u.ks.length = t.ks.length) from decide_eq_decide.2 eq_comm]
      by_cases hl : t.ks.length = u.ks.length
      · rw [ih.2 t.ks u.ks (by omega) hl]
      · rw [show decide (u.ks.length = t.ks.length) = false from decide_eq_false fun e => hl e.symm]; simp
    refine ⟨hT, fun ts => ?_⟩
    induction ts with
    | nil => intro us _ hl; cases us with
      | nil => rfl
      | cons u us => simp at hl
    | cons t ts ihs =>
      intro us h hl
      rw [wts_cons] at h
      cases us with
      | nil => simp at hl
      | cons u us => rw [sameK_cons, sameK_cons, hT t u (by omega), ihs us (by omega) (by simpa using hl)]
theorem same_comm (t u : RT) : sameT t u = sameT u t := (same_comm_aux (wt t)).1 t u (Nat.le_refl _)
theorem same_self_aux : ∀ m : Nat, (∀ t, wt t ≤ m → sameT t t = true) ∧ (∀ ts : List RT, wts ts ≤ m → sameK ts ts = true) := by
  intro m
  induction m with
  | zero =>
    refine ⟨fun t h => by have := wt_pos t; omega, fun ts h => ?_⟩
    cases ts with
    | nil => exact sameK_nil _
    | cons t ts => rw [wts_cons] at h; have := wt_pos t; omega
  | succ m ih =>
    have hT : ∀ t, wt t ≤ m + 1 → sameT t t = true := by
      intro t h
      have hk := wt_ks t
      rw [sameT_eq, ih.2 t.ks (by omega)]
      simp
    refine ⟨hT, fun ts => ?_⟩
    induction ts with
    | nil => intro _; exact sameK_nil _
    | cons t ts ihs =>
      intro h
      rw [wts_cons] at h
      rw [sameK_cons, hT t (by omega), ihs (by omega)]; rfl
theorem same_self (t : RT) : sameT t t = true := (same_self_aux (wt t)).1 t (Nat.le_refl _)

/-! ### Without regions -/
/-! ### Other regions -/
/-! ### Regions -/
end Rt
end Go.Proofs.YtolpdhkgkjnbfaaGreatDoor
