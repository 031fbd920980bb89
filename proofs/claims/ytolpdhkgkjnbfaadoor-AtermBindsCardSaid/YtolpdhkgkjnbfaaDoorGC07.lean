/-The walks of the document's Binds of terms with regions. Terms with regions, without these: mathematics. What can be read in one world and in another; a world with some blocks out of sight. The walk of the document's row of all nodes: the loop. Rows of terms that a call made, read. A term that is made of a term with regions: what memory holds on the way. (Written by wip/tools/aterase.py.) -/
import Derived.Test.YtolpdhkgkjnbfaaDoorGC05
import Derived.Test.YtolpdhkgkjnbfaaDoorGC04
import Derived.Deep.QuietTactic
import Derived.BigQuiet
import Derived.Test.YtolpdhkgkjnbfaaDoorGC06
import Derived.Deep.RegionLaw
import Derived.Deep.AppendLies
namespace Go.Proofs.YtolpdhkgkjnbfaaDoor
open Go.RowKit
set_option linter.unusedVariables false
set_option linter.unusedSimpArgs false
namespace Aterm
open Effect (RdI nget nget_at nget_mem Ixs intsV own_slice)
open Rt (box_new box_at below_then)

/-- A row of nodes that was made, as it lies later. -/
structure AllAt (w0 W : World) (g c : Nat) (F : List AT) : Prop where
  own : ∃ B xs, W.ownsRow B 33 19 (.slice (some ⟨g, 0, none⟩) F.length c) F.length xs ∧ Flat w0 xs F
theorem AllAt.below {w0 W W' : World} {g c : Nat} {F : List AT} (h : AllAt w0 W g c F) (hb : Below W.heap.size W W') : AllAt w0 W' g c F := by
  obtain ⟨B, xs, h1, h2⟩ := h.own
  exact ⟨B, xs, own_below h1 hb, h2⟩
theorem ixs_ne {B m g : Nat} {W : World} {v : Value} {l : List Int} (h : Ixs B W v m l) {cur : Array Value} {fr : Nat × Nat} (hg : W.heap[g]? = some (.cells cur 33 fr)) : some g ≠ v.ownBlock := by
  intro e
  rcases h.2 with ⟨rfl, _⟩ | ⟨k, cap, cur', rfl, _, hk, _⟩
  · simp [Value.ownBlock] at e
  · simp [Value.ownBlock] at e
    subst e
    rw [hg] at hk
    injection hk with hk
    injection hk with _ hk _
    exact absurd hk (by decide)
theorem AllAt.grown {w0 W W' : World} {g c B m : Nat} {F : List AT} {v : Value} {l : List Int} (h : AllAt w0 W g c F) (hi : Ixs B W v m l) (hg : W.grownBy W' v.ownBlock) : AllAt w0 W' g c F := by
  obtain ⟨B', xs, h1, h2⟩ := h.own
  refine ⟨B', xs, h1.kept hg ?_, h2⟩
  rcases h1.2 with ⟨e, _⟩ | ⟨k, cap, cur, e, _, hk, _⟩
  · cases e
  · injection e with e
    injection e with e
    injection e with e
    subst e
    exact .inr (ixs_ne hi hk)
theorem AllAt.get {w0 W : World} {g c : Nat} {F : List AT} (h : AllAt w0 W g c F) (j : Nat) (hj : j < F.length) :
    ∃ v, AtIs w0 (tget F j).h v (tget F j).ks.length (tget F j) ∧ W.rangeAt g (j * 19) (acells (tget F j).h v (tget F j).ks.length) := by
  obtain ⟨B, xs, h1, h2⟩ := h.own
  obtain ⟨v, h3, h4⟩ := h2.get j hj
  refine ⟨v, h3, fun i x hx => ?_⟩
  have := h1.cells (g := g) rfl _ _ (h4 i x hx)
  rw [Addr.add_lit, Nat.zero_add] at this
  exact this
theorem ownL_take (F : List AT) (j : Nat) (hj : j < F.length) : ownL (F.take (j + 1)) = ownL (F.take j) ++ ownH (tget F j).h := by
  rw [take_tget F j hj, ownL_append]
  show _ ++ (ownH (tget F j).h ++ []) = _
  rw [List.append_nil]
theorem ownL_take_le : ∀ (F : List AT) (j : Nat), (ownL (F.take j)).length ≤ (ownL F).length
  | [], j => by simp
  | t :: F, 0 => by simp [ownL]
  | t :: F, j + 1 => by
    rw [List.take_succ_cons, ownL, ownL, List.length_append, List.length_append]
    have := ownL_take_le F j
    omega

theorem own_lower {W : World} {B B' e s n : Nat} {v : Value} {xs : List Value} (h : W.ownsRow B e s v n xs) (hB : B' ≤ B) : W.ownsRow B' e s v n xs :=
  ⟨h.1, h.2.imp id (fun ⟨g, cap, cur, a, b, r⟩ => ⟨g, cap, cur, a, by omega, r⟩)⟩

set_option maxRecDepth 10000 in
set_option maxHeartbeats 3200000 in
theorem refBinds_walk (t : AT) (h : Hd) (v : V) (l : Nat) (w : World) (hT : AtIs w h v l t) (hw : wt t ≤ 1000000) (hbn : (bindT t).length ≤ 1000000) :
    Calls Tryd.prog 8 #[.agg #[.int .u8 h.h.k, .int .u8 h.h.op, .int .i64 h.h.pl, .int .i64 h.h.n, .string h.h.name, .string h.h.arg, .string h.h.exn, .int .i64 h.rho, .slice v.ra h.rhos.length v.rc, .slice v.ea h.e.length v.ec, .int .u8 h.ty.h.k, .int .i64 h.ty.h.r, .slice v.tea h.ty.h.e.length v.tec, .slice v.tka h.ty.ks.length v.tkc, .int .u8 h.re.h.k, .int .i64 h.re.h.r, .slice v.sea h.re.h.e.length v.sec, .slice v.ska h.re.ks.length v.skc, .slice v.ka l v.kc]] w fun e w' => ∃ a c, e = .returned (.slice a (bindT t).length c) ∧ Ixs w.heap.size w' (.slice a (bindT t).length c) (bindT t).length (bindT t) ∧ Below w.heap.size w w' := by
  rw [bindT_flat] at hbn ⊢
  have hfl := flatT_len t
  have HT := Lib.hid hT; have HWT := Lib.hid hw
  clear hT hw
  go_enter Tryd.func8, Tryd.ntmps8
  go_upto_region 1 with (fail)
  obtain ⟨W0, hW0⟩ : ∃ W0, W0 = w.alloc (.cells #[.int .u8 h.h.k, .int .u8 h.h.op, .int .i64 h.h.pl, .int .i64 h.h.n, .string h.h.name, .string h.h.arg, .string h.h.exn, .int .i64 h.rho, .slice v.ra h.rhos.length v.rc, .slice v.ea h.e.length v.ec, .int .u8 h.ty.h.k, .int .i64 h.ty.h.r, .slice v.tea h.ty.h.e.length v.tec, .slice v.tka h.ty.ks.length v.tkc, .int .u8 h.re.h.k, .int .i64 h.re.h.r, .slice v.sea h.re.h.e.length v.sec, .slice v.ska h.re.ks.length v.skc, .slice v.ka l v.kc] 33) := ⟨_, rfl⟩
  have hbx : Box W0 w.heap.size h v l := by rw [hW0]; exact box_of (w := w) (h := h) (v := v) (l := l)
  have hb0 : Below w.heap.size w W0 := by rw [hW0]; exact box_new _
  rw [← hW0]
  clear hW0
  generalize hN0 : w.heap.size = N0 at hbx ⊢
  have HB0 := Lib.hid hb0; have HBX := Lib.hid hbx; have HRG := Lib.hid hbx.range
  obtain ⟨b0, b1, b2, b3, b4, b5, b6, b7, b8, b9, b10, b11, b12, b13, b14, b15, b16, b17, b18⟩ := hbx
  clear hb0 hN0 b0 b1 b2 b3 b4 b5 b6 b7 b8 b9 b10 b11 b12 b13 b14 b15 b16 b17 b18
  go_upto_region 2 with (fail)
  have hrow : Ixs W0.heap.size (W0.alloc (.cells #[] 3)) (.slice (some ⟨W0.heap.size, 0, none⟩) 0 0) 0 [] := World.ownsRow_lit (base := W0.heap.size) (e := 3) (size := 1) W0 #[] 0 (Nat.le_refl _) (by unfold maxLen; omega) rfl
  obtain ⟨W1, hW1⟩ : ∃ W1, W1 = W0.alloc (.cells #[] 3) := ⟨_, rfl⟩
  have hb1 : Below W0.heap.size W0 W1 := by rw [hW1]; exact box_new _
  rw [← hW1] at hrow ⊢
  clear hW1
  have hr1 := range_below HRG.out hb1
  have HB1 := Lib.hid hb1; have HROW := Lib.hid hrow; have HR1 := Lib.hid hr1
  clear hb1 hrow hr1
  generalize hE0 : W0.heap.size = E0 at *
  go_wp2_with (refine at_load rfl _ rfl N0 0 rfl HR1.out ?_)
  have hbw : Below w.heap.size w W1 := below_then HB0.out (by rw [hE0]; exact HB1.out) HB0.out.size
  refine (refAll_walk (wt t) t h v l w W1 (Nat.le_refl _) HWT.out HT.out hbw).mono ?_
  rintro e w2 ⟨g, c2, xs, rfl, hown2, hfl2, hb2⟩
  have hall : AllAt w w2 g c2 (flatT t) := ⟨_, xs, by rw [hfl]; exact hown2, hfl2⟩
  have hi2 : Ixs E0 w2 (.slice (some ⟨E0, 0, none⟩) 0 0) 0 [] := own_below HROW.out hb2
  have hB2 : Below E0 W0 w2 := HB1.out.trans (hb2.mono (by have h1 := HB1.out.size; omega))
  have HALL := Lib.hid hall; have HI2 := Lib.hid hi2; have HB2 := Lib.hid hB2; have HBN := Lib.hid hbn; have HE0 := Lib.hid hE0
  clear hown2 hfl2 hb2 hbw hall hi2 hB2 hbn hE0
  generalize hF : flatT t = F at *
  have HF := Lib.hid hF
  clear hF
  obtain ⟨n, hn⟩ : ∃ n, n = wt t := ⟨_, rfl⟩
  have hnw := HWT.out
  rw [← hn] at hfl hnw ⊢
  have HFL := Lib.hid hfl
  clear hfl hn
  go_wp2_with (fail)
  go_loopw [3, 5, 11] (fun s3 _ i wr => ∃ (j m c : Nat) (a : Option Addr), j ≤ n ∧ i = .int .i64 j ∧ s3 = .slice a m c ∧ Hid (m = (ownL (F.take j)).length) ∧ Hid (Ixs E0 wr (.slice a m c) m (ownL (F.take j))) ∧ Hid (AllAt w wr g c2 F) ∧ Hid (Below E0 W0 wr)) (fun _ _ i _ => n - (intOf i).toNat)
  case atStart => exact ⟨0, 0, 0, _, Nat.zero_le _, rfl, rfl, Lib.hid rfl, HI2, HALL, HB2⟩
  case round =>
    obtain ⟨j, m, c, a, hj, rfl, rfl, HM, HI, HA, HB⟩ := hrel
    by_cases hlt : j < n
    · have hjf : j < F.length := by rw [HFL.out]; exact hlt
      obtain ⟨v', hat, hrg⟩ := HA.out.get j hjf
      have hwr : Below w.heap.size w wr := below_then HB0.out (by rw [HE0.out]; exact HB.out) HB0.out.size
      have hat' := hat.below hwr
      have htk := ownL_take F j hjf
      have hle := ownL_take_le F (j + 1)
      have HAT := Lib.hid hat'; have HRJ := Lib.hid hrg; have HTK := Lib.hid htk; have HLE := Lib.hid hle
      clear hat hrg hat' htk hle hjf hwr
      go_wp2_with (refine at_load rfl _ rfl g (j * 19) rfl HRJ.out ?_)
      refine (own_walk (tget F j) _ v' _ _ HAT.out).mono ?_
      rintro e w3 ⟨p, n3, c3, rfl, hn3, hrd, hb3⟩
      have hi3 : Ixs E0 w3 (.slice a m c) m (ownL (F.take j)) := own_below HI.out hb3
      have hbn : m + n3 ≤ 1000000 := by
        have h1 := HLE.out; have h2 := HTK.out; have h3 := HBN.out; have h4 := HM.out
        rw [h2, List.length_append] at h1
        omega
      have hsz : E0 ≤ w3.heap.size := by have h1 := HB.out.size; have h2 := hb3.size; have h3 := HE0.out; omega
      obtain ⟨a', c', w4, hrun, hi4, hg4, -⟩ := append_rd (c := c3) hi3 hrd (by omega) hsz
      have ha4 := (HA.out.below hb3).grown hi3 hg4
      have hb4 : Below E0 W0 w4 := (HB.out.trans (hb3.mono (by have h1 := HB.out.size; have h3 := HE0.out; omega))).grown hg4 hsz (fun q hq => (hi3.lt q hq).1)
      rw [← HTK.out] at hi4
      have hm4 : m + n3 = (ownL (F.take (j + 1))).length := by rw [HTK.out, List.length_append, ← HM.out, hn3]
      have HRUN := Lib.hid hrun; have HI4 := Lib.hid hi4; have HA4 := Lib.hid ha4; have HB4 := Lib.hid hb4; have HM4 := Lib.hid hm4
      clear hrun hi4 hg4 ha4 hb4 hi3 hrd hb3 hn3 hm4 hsz
      go_wp2_with (at_builtin; refine append_made rfl (.tmp 14) (.tmp 19) 24 24 rfl (.slice a m c) (.slice p n3 c3) _ rfl rfl HRUN.out ?_)
      go_roundw
      case rel => exact ⟨j + 1, m + n3, c', a', by omega, by go_num, rfl, HM4, HI4, HA4, HB4⟩
      case measure => simp [intOf]; omega
    · obtain rfl : j = n := by omega
      have hall : F.take j = F := List.take_of_length_le (by rw [HFL.out]; exact Nat.le_refl _)
      have hi := HI.out; have hm := HM.out
      rw [hall] at hi hm
      subst hm
      have HI5 := Lib.hid hi
      clear hi hall
      go_wp2_with (fail)
      go_ret
      have h1 := HB0.out.size; have h2 := HE0.out
      rw [HF.out]
      exact ⟨a, c, rfl, own_lower HI5.out (by omega), HB0.out.trans ((HB.out).mono (by omega))⟩
end Aterm
end Go.Proofs.YtolpdhkgkjnbfaaDoor
namespace Go.Proofs.YtolpdhkgkjnbfaaDoor
open Go.RowKit
set_option linter.unusedVariables false
set_option linter.unusedSimpArgs false
namespace Aterm
theorem wts_ge : ∀ ts : List AT, ts.length ≤ wts ts
  | [] => by simp
  | t :: ts => by rw [wts_cons, List.length_cons]; have := wt_pos t; have := wts_ge ts; omega
/-! ### Without regions -/
/-- A head without regions. -/
def bareH (h : Hd) : Term.Hd := if h.h.k = 18 then { h.h with k := 2 } else h.h
mutual
def eraseT : AT → Term.Tm
  | .node h l => if h.h.k = 17 ∧ l ≠ [] then (eraseK l).headD (.node hd0.h []) else .node (bareH h) (eraseK l)
def eraseK : List AT → List Term.Tm
  | [] => []
  | t :: ts => eraseT t :: eraseK ts
end
theorem eraseT_eq (t : AT) : eraseT t = if t.h.h.k = 17 ∧ t.ks ≠ [] then (eraseK t.ks).headD (.node hd0.h []) else .node (bareH t.h) (eraseK t.ks) := by
  cases t
  conv => lhs; unfold eraseT
  rfl
theorem eraseK_nil : eraseK [] = [] := by unfold eraseK; rfl
theorem eraseK_cons (t : AT) (ts : List AT) : eraseK (t :: ts) = eraseT t :: eraseK ts := by conv => lhs; unfold eraseK
theorem eraseK_map : ∀ ts : List AT, eraseK ts = ts.map eraseT
  | [] => eraseK_nil
  | t :: ts => by rw [eraseK_cons, eraseK_map ts]; rfl
theorem eraseT_reg {t u : AT} {us : List AT} (hk : t.h.h.k = 17) (hs : t.ks = u :: us) : eraseT t = eraseT u := by
  rw [eraseT_eq, if_pos ⟨hk, by rw [hs]; simp⟩, hs, eraseK_cons]; rfl
theorem eraseT_no {t : AT} (hk : ¬ (t.h.h.k = 17 ∧ t.ks ≠ [])) : eraseT t = .node (bareH t.h) (eraseK t.ks) := by rw [eraseT_eq, if_neg hk]
end Aterm
end Go.Proofs.YtolpdhkgkjnbfaaDoor
namespace Go.Proofs.YtolpdhkgkjnbfaaDoor
open Go.RowKit
set_option linter.unusedVariables false
namespace Term

/-- What can be read in the one world reads so in the other. -/
def Reads (w0 W : World) : Prop := ∀ a v, w0.cell? a = some v → W.cell? a = some v
theorem Reads.of_below {w0 W : World} (h : Below w0.heap.size w0 W) : Reads w0 W := fun a v hv => (h.cell (World.block_lt_of_cell? w0 _ hv)).trans hv
theorem Reads.trans {a b c : World} (h : Reads a b) (k : Reads b c) : Reads a c := fun x v hv => k x v (h x v hv)
/-- The world, but for the blocks that aren't looked at. -/
def veil (P : Nat → Bool) (W : World) : World := { W with heap := W.heap.mapIdx fun i o => if P i = true then o else .cells #[] 0 }
theorem veil_at {P : Nat → Bool} {W : World} {b : Nat} (h : P b = true) : (veil P W).heap[b]? = W.heap[b]? := by
  unfold veil
  simp only [Array.getElem?_mapIdx]
  cases W.heap[b]? with
  | none => rfl
  | some o => simp [h]
theorem veil_seen {P : Nat → Bool} {W : World} {a : Addr} {v : Value} (h : (veil P W).cell? a = some v) : P a.block = true ∧ W.cell? a = some v := by
  cases hp : P a.block
  · unfold World.cell? veil at h
    simp only [Array.getElem?_mapIdx] at h
    cases ho : W.heap[a.block]? with
    | none => rw [ho] at h; simp at h
    | some o => rw [ho] at h; simp [hp] at h
  · exact ⟨rfl, by rw [← World.cell?_of_block (veil_at hp)]; exact h⟩
theorem veil_reads (P : Nat → Bool) (W : World) : Reads (veil P W) W := fun a v h => (veil_seen h).2
/-- From one to the other: what is seen of the one stands in the other, and is seen there. -/
theorem veil_to {P P' : Nat → Bool} {W W' : World} (h : ∀ b, b < W.heap.size → P b = true → P' b = true ∧ W'.heap[b]? = W.heap[b]?) : Reads (veil P W) (veil P' W') := fun a v hv => by
  obtain ⟨hp, hw⟩ := veil_seen hv
  obtain ⟨h1, h2⟩ := h a.block (World.block_lt_of_cell? W _ hw) hp
  rw [World.cell?_of_block (veil_at h1), World.cell?_of_block h2]
  exact hw
theorem Kids.reads' {w W : World} {p : Option Addr} {ts : List Tm} (h : Kids w p ts) (hb : Reads w W) : Kids W p ts := by
  induction h with
  | nokids p => exact .nokids p
  | atkids b o ts q c hh hc hl hk ih => exact .atkids b o ts q c hh (fun i hi j v hv => hb _ _ (hc i hi j v hv)) hl (fun i hi => ih i hi)
theorem TmIs.reads' {w W : World} {h : Hd} {p : Option Addr} {l c : Nat} {t : Tm} (k : TmIs w h p l c t) (hb : Reads w W) : TmIs W h p l c t := ⟨k.head, k.len, k.ok, k.cap, k.kids.reads' hb⟩
theorem Flat.reads {w W : World} (hb : Reads w W) : ∀ {ts : List Tm} {xs : List Value}, Flat w xs ts → Flat W xs ts
  | [], xs, h => h
  | t :: ts, xs, ⟨q, c, zs, he, hT, h⟩ => ⟨q, c, zs, he, hT.reads' hb, h.reads hb⟩
/-- A row of terms whose kids are there. -/
theorem kids_of_flat {W : World} {b : Nat} {xs : List Value} {ts : List Tm} (hc : ∀ j u, xs[j]? = some u → W.cell? ⟨b, j, none⟩ = some u) (hf : Flat W xs ts) : Kids W (some ⟨b, 0, none⟩) ts := by
  have each : ∀ i, ∃ r : Option Addr × Nat, i < ts.length → TmIs W (tget ts i).h r.1 (tget ts i).ks.length r.2 (tget ts i) ∧ ∀ j v, (tcells (tget ts i).h r.1 (tget ts i).ks.length r.2)[j]? = some v → xs[i * 8 + j]? = some v := by
    intro i
    by_cases hi : i < ts.length
    · obtain ⟨q, c, h1, h2⟩ := hf.get i hi
      exact ⟨(q, c), fun _ => ⟨h1, h2⟩⟩
    · exact ⟨(none, 0), fun h => absurd h hi⟩
  obtain ⟨R, hR⟩ := Classical.axiomOfChoice each
  refine .atkids b 0 ts (fun i => (R i).1) (fun i => (R i).2) (fun i hi => (hR i hi).1.ok) (fun i hi j v hv => ?_) (fun i hi => (hR i hi).1.cap) (fun i hi => (hR i hi).1.kids)
  rw [Nat.zero_add]
  exact hc _ _ ((hR i hi).2 j v hv)
end Term
end Go.Proofs.YtolpdhkgkjnbfaaDoor
namespace Go.Proofs.YtolpdhkgkjnbfaaDoor
open Go.RowKit
set_option linter.unusedVariables false
namespace Term

theorem own_below {w W : World} {B e size n : Nat} {v : Value} {xs : List Value} (h : w.ownsRow B e size v n xs) (hb : Below w.heap.size w W) : W.ownsRow B e size v n xs :=
  h.kept (row := none) ⟨hb.os, hb.tape, hb.output, hb.size, fun q hq _ => hb.block q hq⟩ (by cases v.ownBlock <;> simp)

set_option maxRecDepth 10000 in
set_option maxHeartbeats 6400000 in
theorem refAll_walk : ∀ (m : Nat) (t : Tm) (h : Hd) (p : Option Addr) (l c : Nat) (w0 w : World), wt t ≤ m → wt t ≤ 1000000 → TmIs w0 h p l c t → Below w0.heap.size w0 w →
    Calls Tryd.prog 29 #[.agg #[.int .u8 h.k, .int .u8 h.op, .int .i64 h.pl, .int .i64 h.n, .string h.name, .string h.arg, .string h.exn, .slice p l c]] w fun e w' =>
      ∃ g c' xs, e = .returned (.slice (some ⟨g, 0, none⟩) (wt t) c') ∧ w'.ownsRow w.heap.size 44 8 (.slice (some ⟨g, 0, none⟩) (wt t) c') (wt t) xs ∧ Flat w0 xs (flatT t) ∧ Below w.heap.size w w' := by
  intro m
  induction m with
  | zero => intro t h p l c w0 w hm; have := wt_pos t; omega
  | succ m ih =>
    intro t h p l c w0 w hm hsz hT hb0
    obtain ⟨i0, hi, hz0, hz1, hz2⟩ := info_parts infoTerm
    have HI := Lib.hid hi; have HZ0 := Lib.hid hz0; have HZ1 := Lib.hid hz1; have HZ2 := Lib.hid hz2
    have hone := Flat.one hT
    have hhd := hT.head
    obtain ⟨k, op, pl, nn, nm, ar, ex⟩ := h
    have hlc : l ≤ 9223372036854775807 := by have := hT.cap; unfold maxLen at this; omega
    have hbox : ∀ O : Obj, Below w.heap.size w (w.alloc O) := fun O => (Below.refl _ _).alloc (Nat.le_refl _) _
    have hrow : ∀ w1 : World, w1.heap.size = w.heap.size + 1 → (w1.alloc (.cells #[.int .u8 k, .int .u8 op, .int .i64 pl, .int .i64 nn, .string nm, .string ar, .string ex, .slice p l c] 44)).ownsRow (w.heap.size + 1) 44 8 (.slice (some ⟨w.heap.size + 1, 0, none⟩) 1 1) 1 (tcells ⟨k, op, pl, nn, nm, ar, ex⟩ p l c) := fun w1 h1 => by
      have := World.ownsRow_lit (base := w.heap.size + 1) (e := 44) (size := 8) w1 #[.int .u8 k, .int .u8 op, .int .i64 pl, .int .i64 nn, .string nm, .string ar, .string ex, .slice p l c] 1 (by omega) (by unfold maxLen; omega) rfl
      rw [h1] at this
      exact this
    have HBOX := Lib.hid hbox; have IH := Lib.hid ih; have HT := Lib.hid hT; have HM := Lib.hid hm; have HSZ := Lib.hid hsz; have HB0 := Lib.hid hb0; have HROW := Lib.hid hrow; have HONE := Lib.hid hone; have HHD := Lib.hid hhd
    clear ih hT hm hbox hsz hb0 hrow hi hz0 hz1 hz2 hone hhd
    go_enter Tryd.func29, Tryd.ntmps29
    go_wp2_with (fail)
    go_loopw [3, 10] (fun v i wr => ∃ (j : Nat) (xs : List Value), j ≤ l ∧ i = .int .i64 j ∧ wr.ownsRow (w.heap.size + 1) 44 8 v (1 + wts (t.ks.take j)) xs ∧ Flat w0 xs (t :: flatK (t.ks.take j)) ∧
      Below (w.alloc (.cells #[.int .u8 k, .int .u8 op, .int .i64 pl, .int .i64 nn, .string nm, .string ar, .string ex, .slice p l c] 44)).heap.size (w.alloc (.cells #[.int .u8 k, .int .u8 op, .int .i64 pl, .int .i64 nn, .string nm, .string ar, .string ex, .slice p l c] 44)) wr) (fun _ i _ => l - (intOf i).toNat)
    case atStart =>
      refine ⟨0, _, Nat.zero_le _, rfl, HROW.out _ (by simp), ?_, (Below.refl _ _).alloc (Nat.le_refl _) _⟩
      rw [List.take_zero, flatK_nil]
      exact HONE.out
    case round =>
      obtain ⟨j, xs, hj, rfl, hown, hfl, hw⟩ := hrel
      have HW := Lib.hid hw; have HOWN := Lib.hid hown; have HFL := Lib.hid hfl
      have b7 := boxAt hw 7 rfl
      clear hw hown hfl
      have HWW := Lib.hid ((HBOX.out _).trans (HW.out.mono (HBOX.out _).size))
      by_cases hlt : j < l
      · have hjk : j < t.ks.length := by rw [HT.out.len]; exact hlt
        have hst := flatK_take t.ks j hjk
        have hsw := wts_take t.ks j hjk
        have hB0r := HB0.out.trans (HWW.out.mono HB0.out.size)
        obtain ⟨b, o, q, c', rfl, hkid0, c0, c1, c2, c3, c4, c5, c6, c7⟩ := HT.out.kids.get j hjk
        have hkid := hkid0
        have hkb : b < w0.heap.size := World.block_lt_of_cell? w0 _ c0
        have e0 := (hB0r.cell (p := ⟨b, o + j * 8, none⟩) hkb).trans c0
        have e1 := (hB0r.cell (p := ⟨b, o + j * 8 + 1, none⟩) hkb).trans c1
        have e2 := (hB0r.cell (p := ⟨b, o + j * 8 + 2, none⟩) hkb).trans c2
        have e3 := (hB0r.cell (p := ⟨b, o + j * 8 + 3, none⟩) hkb).trans c3
        have e4 := (hB0r.cell (p := ⟨b, o + j * 8 + 4, none⟩) hkb).trans c4
        have e5 := (hB0r.cell (p := ⟨b, o + j * 8 + 5, none⟩) hkb).trans c5
        have e6 := (hB0r.cell (p := ⟨b, o + j * 8 + 6, none⟩) hkb).trans c6
        have e7 := (hB0r.cell (p := ⟨b, o + j * 8 + 7, none⟩) hkb).trans c7
        have hwk := wts_get hjk
        have hwt := wt_ks t
        have hwl := wts_take_le t.ks (j + 1)
        have HST := Lib.hid hst; have HK := Lib.hid hkid; have HSW := Lib.hid hsw; have HWL := Lib.hid hwl; have HB0R := Lib.hid hB0r
        have HWK := Lib.hid hwk; have HWT := Lib.hid hwt
        clear hst hkid hkid0 hwk hwt hjk hsw hwl hkb c0 c1 c2 c3 c4 c5 c6 c7 hB0r
        go_wp2_with (fail)
        refine (IH.out (tget t.ks j) _ q _ c' w0 _ (by have := HM.out; have := HWK.out; have := HWT.out; omega) (by have := HSZ.out; have := HWK.out; have := HWT.out; omega) HK.out HB0R.out).mono ?_
        rintro e w2 ⟨g2, c2, ys, rfl, hown2, hfl2, hb2⟩
        have HW2 := Lib.hid (HW.out.trans (hb2.mono HW.out.size))
        have HO2 := Lib.hid (own_below HOWN.out hb2)
        have HC2 := Lib.hid (hown2.cells (g := g2) rfl)
        have HL2 := Lib.hid hown2.1
        have HF2 := Lib.hid hfl2
        have HBS := Lib.hid HW2.out.size
        clear hb2 hown2 hfl2 b7 e0 e1 e2 e3 e4 e5 e6 e7
        obtain ⟨X, hX⟩ : ∃ X, X = wt (tget t.ks j) := ⟨_, rfl⟩
        obtain ⟨Y, hY⟩ : ∃ Y, Y = wts (t.ks.take j) := ⟨_, rfl⟩
        have hbound : 1 + Y + X ≤ 1000000 := by
          have h1 := HSW.out; have h2 := HWL.out; have h3 := HWT.out; have h4 := HSZ.out
          omega
        rw [← hX] at HL2 ⊢
        rw [← hY] at HO2
        have HX := Lib.hid hX; have HY := Lib.hid hY; have HBD := Lib.hid hbound
        clear hX hY hbound
        go_wp2_with (at_builtin; refine wpList_append_own _ rfl (.tmp 13) (.tmp 19) 42 rfl (w.heap.size + 1) 44 i0 (.agg #[.int .u8 0, .int .u8 0, .int .i64 0, .int .i64 0, .string ⟨#[]⟩, .string ⟨#[]⟩, .string ⟨#[]⟩, .slice none 0 0]) 8 96 Tryd.underlying42 HI.out HZ0.out HZ1.out HZ2.out rfl (by decide) _ _ _ rfl HO2.out ⟨g2, 0, none⟩ X c2 ys rfl HL2.out HC2.out (Flat.cells1 HF2.out) (by have := HBD.out; unfold maxLen; omega) (by have := HBD.out; omega) (by have := HBS.out; simp at this; omega) ?_; intro v3 w3 hown3 hgrow3 hnil3; have AFT := Lib.hid (HW2.out.grown hgrow3 HBS.out (fun q hq => by have := (HO2.out.lt q hq).1; simp; omega)); have HO3 := Lib.hid hown3; clear hown3 hgrow3 hnil3)
        go_roundw
        case rel =>
          refine ⟨j + 1, xs ++ ys, by omega, by go_num, ?_, ?_, AFT.out⟩
          · rw [HSW.out, ← HX.out, ← HY.out, show 1 + (Y + X) = 1 + Y + X from by omega]; exact HO3.out
          · rw [HST.out]; exact HFL.out.append HF2.out
        case measure => simp [intOf]; omega
      · obtain rfl : j = l := by omega
        have hall : t.ks.take j = t.ks := List.take_of_length_le (by rw [HT.out.len]; exact Nat.le_refl _)
        have ho := HOWN.out
        have hf := HFL.out
        rw [hall] at ho hf
        rw [← flatT_eq] at hf
        have hwt := wt_ks t
        rw [show 1 + wts t.ks = wt t from by omega] at ho
        obtain ⟨g, cap, hv⟩ : ∃ g cap, u3 = .slice (some ⟨g, 0, none⟩) (wt t) cap := by
          rcases ho.2 with ⟨_, h0⟩ | ⟨g, cap, _, hv, _⟩
          · have := wt_pos t; omega
          · exact ⟨g, cap, hv⟩
        subst hv
        have HO := Lib.hid ho; have HF := Lib.hid hf
        clear ho hf hall hwt
        go_wp2_with (fail)
        go_ret
        refine ⟨g, cap, xs, rfl, ?_, HF.out, HWW.out⟩
        exact ⟨HO.out.1, HO.out.2.imp id (fun ⟨g, cap, cur, a, b, r⟩ => ⟨g, cap, cur, a, by omega, r⟩)⟩
end Term
end Go.Proofs.YtolpdhkgkjnbfaaDoor
namespace Go.Proofs.YtolpdhkgkjnbfaaDoor
open Go.RowKit
set_option linter.unusedVariables false
namespace Term

theorem below_then {B : Nat} {a w1 w2 : World} (h : Below B a w1) (hb : Below w1.heap.size w1 w2) (hB : B ≤ w1.heap.size) : Below B a w2 := h.trans (hb.mono hB)
theorem own_slice {w : World} {base e size n : Nat} {v : Value} {xs : List Value} (h : w.ownsRow base e size v n xs) : ∃ a c, v = .slice a n c ∧ c ≤ 9223372036854775807 ∧ n ≤ c := by
  rcases h.2 with ⟨hv, h0⟩ | ⟨g, cap, _, hv, _, _, h1, h2, _⟩
  · subst h0; exact ⟨none, 0, hv, by omega, Nat.le_refl _⟩
  · unfold maxLen at h2; exact ⟨_, cap, hv, by omega, h1⟩
end Term
end Go.Proofs.YtolpdhkgkjnbfaaDoor
namespace Go.Proofs.YtolpdhkgkjnbfaaDoor
open Go.RowKit
set_option linter.unusedVariables false
set_option linter.unusedSimpArgs false
namespace Aterm
open Effect (lt_of_block heap_alloc_new)
open Rt (box_new box_at below_then)
open Term (Tm TmIs Reads veil veil_to veil_at tcells)

def from_ (M : Nat) (i : Nat) : Bool := decide (M ≤ i)
/-- From block B on, but the row's own. -/
def seen (B : Nat) (v : Value) (i : Nat) : Bool := decide (B ≤ i ∧ v.ownBlock ≠ some i)
theorem seen_iff {B : Nat} {v : Value} {i : Nat} : seen B v i = true ↔ B ≤ i ∧ v.ownBlock ≠ some i := by unfold seen; exact decide_eq_true_iff
/-- A row of terms that grows: its cells, and its terms' kids, which lie in none of these. -/
def RowM (B : Nat) (v : Value) (ts : List Tm) (W : World) : Prop := ∃ xs, W.ownsRow B 44 8 v ts.length xs ∧ Term.Flat (veil (seen B v) W) xs ts
theorem RowM.nil (B : Nat) (W : World) : RowM B (.slice none 0 0) [] W := ⟨[], World.ownsRow_nil _ _ _ _, rfl⟩
theorem RowM.below {B : Nat} {v : Value} {ts : List Tm} {W W' : World} (h : RowM B v ts W) (hb : Below W.heap.size W W') : RowM B v ts W' := by
  obtain ⟨xs, h1, h2⟩ := h
  exact ⟨xs, own_below h1 hb, h2.reads (veil_to fun b hbl hp => ⟨hp, hb.block b hbl⟩)⟩
theorem own_cap {w : World} {base e size n : Nat} {v : Value} {xs : List Value} (h : w.ownsRow base e size v n xs) : ∃ a c, v = .slice a n c ∧ c ≤ maxLen ∧ n ≤ c := by
  rcases h.2 with ⟨hv, h0⟩ | ⟨g, cap, _, hv, _, _, h1, h2, _⟩
  · subst h0; exact ⟨none, 0, hv, by unfold maxLen; omega, Nat.le_refl _⟩
  · exact ⟨_, cap, hv, h2, h1⟩
/-- One term more. -/
theorem row_step {B M : Nat} {v v' : Value} {W W3 : World} {ts : List Tm} {xs : List Value} {t : Tm} {hd : Term.Hd} {q : Option Addr} {l c : Nat}
    (ho : W.ownsRow B 44 8 v ts.length xs) (hf : Term.Flat (veil (seen B v) W) xs ts) (hT : TmIs (veil (from_ M) W) hd q l c t) (hM : B ≤ M) (hg : ∀ g, v.ownBlock = some g → g < M)
    (ho3 : W3.ownsRow B 44 8 v' (ts.length + 1) (xs ++ tcells hd q l c)) (hgr : W.grownBy W3 v.ownBlock) (hat : v'.ownBlock = v.ownBlock ∨ v'.ownBlock = some W.heap.size) : RowM B v' (ts ++ [t]) W3 := by
  refine ⟨xs ++ tcells hd q l c, by rw [List.length_append]; exact ho3, ?_⟩
  have key : ∀ b, b < W.heap.size → B ≤ b → v.ownBlock ≠ some b → seen B v' b = true ∧ W3.heap[b]? = W.heap[b]? := fun b hb h1 h2 => by
    refine ⟨seen_iff.2 ⟨h1, ?_⟩, hgr.block b hb (fun e => h2 e.symm)⟩
    rcases hat with e | e <;> rw [e]
    · exact h2
    · intro e2; injection e2 with e2; omega
  refine (hf.reads (veil_to fun b hb hp => ?_)).append (Term.Flat.one (hT.reads' (veil_to fun b hb hp => ?_)))
  · obtain ⟨h1, h2⟩ := seen_iff.1 hp
    exact key b hb h1 h2
  · have h1 : M ≤ b := of_decide_eq_true hp
    exact key b hb (by omega) (fun e => by have := hg b e; omega)
theorem RowM.kids {B : Nat} {a : Option Addr} {c : Nat} {ts : List Tm} {W : World} (h : RowM B (.slice a ts.length c) ts W) : Term.Kids (veil (from_ B) W) a ts := by
  obtain ⟨xs, h1, h2⟩ := h
  by_cases h0 : ts.length = 0
  · rw [List.length_eq_zero_iff.1 h0]; exact .nokids _
  · have hat : ∃ g, a = some ⟨g, 0, none⟩ ∧ B ≤ g := by
      rcases h1.2 with ⟨_, h0'⟩ | ⟨g, cap, _, hv, hg, _⟩
      · omega
      · injection hv with hv; exact ⟨g, hv, hg⟩
    obtain ⟨g, rfl, hg⟩ := hat
    have hin : Reads (veil (seen B (.slice (some ⟨g, 0, none⟩) ts.length c)) W) (veil (from_ B) W) := veil_to fun b hb hp => ⟨decide_eq_true (seen_iff.1 hp).1, rfl⟩
    refine Term.kids_of_flat (fun j u hu => ?_) (h2.reads hin)
    have hc := h1.cells (g := g) rfl j u hu
    rw [Addr.add_lit, Nat.zero_add] at hc
    rw [World.cell?_of_block (veil_at (decide_eq_true hg))]
    exact hc
theorem RowM.off {B : Nat} {v : Value} {ts : List Tm} {W W' : World} (h : RowM B v ts W) (hb : ∀ b, B ≤ b → W'.heap[b]? = W.heap[b]?) : RowM B v ts W' := by
  obtain ⟨xs, h1, h2⟩ := h
  refine ⟨xs, ⟨h1.1, h1.2.imp id ?_⟩, h2.reads (veil_to fun b hbl hp => ⟨hp, hb b (seen_iff.1 hp).1⟩)⟩
  rintro ⟨g, cap, cur, rfl, hg, hh, r⟩
  exact ⟨g, cap, cur, rfl, hg, (hb g hg).trans hh, r⟩

/-- How it ends: a term in new memory alone. -/
def EraseEnd (r : Tm) (w : World) (e : Ending) (w' : World) : Prop :=
  ∃ q c, e = .returned (.agg #[.int .u8 r.h.k, .int .u8 r.h.op, .int .i64 r.h.pl, .int .i64 r.h.n, .string r.h.name, .string r.h.arg, .string r.h.exn, .slice q r.ks.length c]) ∧ TmIs (veil (from_ w.heap.size) w') r.h q r.ks.length c r ∧ Below w.heap.size w w'
/-- The terms made so far, in a row of one's own; the boxes: what is read, the result, what is made. -/
structure EraseAt (w : World) (h : Hd) (v : V) (l : Nat) (us : List Tm) (j : Nat) (a : Option Addr) (c0 : Nat) (W : World) : Prop where
  below : Below w.heap.size w W
  box : W.heap[w.heap.size]? = some (.cells #[.int .u8 h.h.k, .int .u8 h.h.op, .int .i64 h.h.pl, .int .i64 h.h.n, .string h.h.name, .string h.h.arg, .string h.h.exn, .int .i64 h.rho, .slice v.ra h.rhos.length v.rc, .slice v.ea h.e.length v.ec, .int .u8 h.ty.h.k, .int .i64 h.ty.h.r, .slice v.tea h.ty.h.e.length v.tec, .slice v.tka h.ty.ks.length v.tkc, .int .u8 h.re.h.k, .int .i64 h.re.h.r, .slice v.sea h.re.h.e.length v.sec, .slice v.ska h.re.ks.length v.skc, .slice v.ka l v.kc] 33 (0, 0))
  res : W.heap[w.heap.size + 1]? = some (.cells #[.int .u8 0, .int .u8 0, .int .i64 0, .int .i64 0, .string ⟨#[]⟩, .string ⟨#[]⟩, .string ⟨#[]⟩, .slice none 0 0] 44 (0, 0))
  out : W.heap[w.heap.size + 2]? = some (.cells #[.int .u8 (bareH h).k, .int .u8 h.h.op, .int .i64 h.h.pl, .int .i64 h.h.n, .string h.h.name, .string h.h.arg, .string h.h.exn, .slice a j c0] 44 (0, 0))
  row : RowM (w.heap.size + 3) (.slice a j c0) us W
  len : us.length = j
/-- A box, of its block. -/
theorem box_blk {W : World} {N : Nat} {h : Hd} {v : V} {l : Nat} {ty : TypeId} (hb : W.heap[N]? = some (.cells #[.int .u8 h.h.k, .int .u8 h.h.op, .int .i64 h.h.pl, .int .i64 h.h.n, .string h.h.name, .string h.h.arg, .string h.h.exn, .int .i64 h.rho, .slice v.ra h.rhos.length v.rc, .slice v.ea h.e.length v.ec, .int .u8 h.ty.h.k, .int .i64 h.ty.h.r, .slice v.tea h.ty.h.e.length v.tec, .slice v.tka h.ty.ks.length v.tkc, .int .u8 h.re.h.k, .int .i64 h.re.h.r, .slice v.sea h.re.h.e.length v.sec, .slice v.ska h.re.ks.length v.skc, .slice v.ka l v.kc] ty (0, 0))) : Box W N h v l := by
  unfold Box
  simp [World.cell?, hb]
theorem erase_start (w : World) (h : Hd) (v : V) (l : Nat) : EraseAt w h v l [] 0 none 0 (((w.alloc (.cells #[.int .u8 h.h.k, .int .u8 h.h.op, .int .i64 h.h.pl, .int .i64 h.h.n, .string h.h.name, .string h.h.arg, .string h.h.exn, .int .i64 h.rho, .slice v.ra h.rhos.length v.rc, .slice v.ea h.e.length v.ec, .int .u8 h.ty.h.k, .int .i64 h.ty.h.r, .slice v.tea h.ty.h.e.length v.tec, .slice v.tka h.ty.ks.length v.tkc, .int .u8 h.re.h.k, .int .i64 h.re.h.r, .slice v.sea h.re.h.e.length v.sec, .slice v.ska h.re.ks.length v.skc, .slice v.ka l v.kc] 33)).alloc (.cells #[.int .u8 0, .int .u8 0, .int .i64 0, .int .i64 0, .string ⟨#[]⟩, .string ⟨#[]⟩, .string ⟨#[]⟩, .slice none 0 0] 44)).alloc (.cells #[.int .u8 (bareH h).k, .int .u8 h.h.op, .int .i64 h.h.pl, .int .i64 h.h.n, .string h.h.name, .string h.h.arg, .string h.h.exn, .slice none 0 0] 44)) := by
  have n1 := heap_alloc_new w (.cells #[.int .u8 h.h.k, .int .u8 h.h.op, .int .i64 h.h.pl, .int .i64 h.h.n, .string h.h.name, .string h.h.arg, .string h.h.exn, .int .i64 h.rho, .slice v.ra h.rhos.length v.rc, .slice v.ea h.e.length v.ec, .int .u8 h.ty.h.k, .int .i64 h.ty.h.r, .slice v.tea h.ty.h.e.length v.tec, .slice v.tka h.ty.ks.length v.tkc, .int .u8 h.re.h.k, .int .i64 h.re.h.r, .slice v.sea h.re.h.e.length v.sec, .slice v.ska h.re.ks.length v.skc, .slice v.ka l v.kc] 33)
  have n2 := heap_alloc_new (w.alloc (.cells #[.int .u8 h.h.k, .int .u8 h.h.op, .int .i64 h.h.pl, .int .i64 h.h.n, .string h.h.name, .string h.h.arg, .string h.h.exn, .int .i64 h.rho, .slice v.ra h.rhos.length v.rc, .slice v.ea h.e.length v.ec, .int .u8 h.ty.h.k, .int .i64 h.ty.h.r, .slice v.tea h.ty.h.e.length v.tec, .slice v.tka h.ty.ks.length v.tkc, .int .u8 h.re.h.k, .int .i64 h.re.h.r, .slice v.sea h.re.h.e.length v.sec, .slice v.ska h.re.ks.length v.skc, .slice v.ka l v.kc] 33)) (.cells #[.int .u8 0, .int .u8 0, .int .i64 0, .int .i64 0, .string ⟨#[]⟩, .string ⟨#[]⟩, .string ⟨#[]⟩, .slice none 0 0] 44)
  have n3 := heap_alloc_new ((w.alloc (.cells #[.int .u8 h.h.k, .int .u8 h.h.op, .int .i64 h.h.pl, .int .i64 h.h.n, .string h.h.name, .string h.h.arg, .string h.h.exn, .int .i64 h.rho, .slice v.ra h.rhos.length v.rc, .slice v.ea h.e.length v.ec, .int .u8 h.ty.h.k, .int .i64 h.ty.h.r, .slice v.tea h.ty.h.e.length v.tec, .slice v.tka h.ty.ks.length v.tkc, .int .u8 h.re.h.k, .int .i64 h.re.h.r, .slice v.sea h.re.h.e.length v.sec, .slice v.ska h.re.ks.length v.skc, .slice v.ka l v.kc] 33)).alloc (.cells #[.int .u8 0, .int .u8 0, .int .i64 0, .int .i64 0, .string ⟨#[]⟩, .string ⟨#[]⟩, .string ⟨#[]⟩, .slice none 0 0] 44)) (.cells #[.int .u8 (bareH h).k, .int .u8 h.h.op, .int .i64 h.h.pl, .int .i64 h.h.n, .string h.h.name, .string h.h.arg, .string h.h.exn, .slice none 0 0] 44)
  generalize hO : (Obj.cells #[.int .u8 h.h.k, .int .u8 h.h.op, .int .i64 h.h.pl, .int .i64 h.h.n, .string h.h.name, .string h.h.arg, .string h.h.exn, .int .i64 h.rho, .slice v.ra h.rhos.length v.rc, .slice v.ea h.e.length v.ec, .int .u8 h.ty.h.k, .int .i64 h.ty.h.r, .slice v.tea h.ty.h.e.length v.tec, .slice v.tka h.ty.ks.length v.tkc, .int .u8 h.re.h.k, .int .i64 h.re.h.r, .slice v.sea h.re.h.e.length v.sec, .slice v.ska h.re.ks.length v.skc, .slice v.ka l v.kc] 33) = O at *
  generalize hO2 : (Obj.cells #[.int .u8 0, .int .u8 0, .int .i64 0, .int .i64 0, .string ⟨#[]⟩, .string ⟨#[]⟩, .string ⟨#[]⟩, .slice none 0 0] 44) = O2 at *
  generalize hO3 : (Obj.cells #[.int .u8 (bareH h).k, .int .u8 h.h.op, .int .i64 h.h.pl, .int .i64 h.h.n, .string h.h.name, .string h.h.arg, .string h.h.exn, .slice none 0 0] 44) = O3 at *
  have s1 : (w.alloc O).heap.size = w.heap.size + 1 := by simp
  have s2 : ((w.alloc O).alloc O2).heap.size = w.heap.size + 2 := by simp
  rw [s1] at n2
  rw [s2] at n3
  refine ⟨(box_new _).trans (((box_new _).trans ((box_new _).mono (by simp))).mono (by simp)), ?_, ?_, ?_, RowM.nil _ _, rfl⟩
  · rw [hO]; exact ((box_new _).block _ (by omega)).trans (((box_new _).block _ (by omega)).trans n1)
  · rw [hO2]; exact ((box_new _).block _ (by omega)).trans n2
  · rw [hO3]; exact n3
/-- One more. -/
theorem erase_step {w : World} {h : Hd} {v : V} {l : Nat} {us : List Tm} {j : Nat} {a : Option Addr} {c0 : Nat} {W w2 w3 : World} {xs : List Value} {hd : Term.Hd} {q2 : Option Addr} {l2 c2 M : Nat} {u : Tm} {O : Obj} {a3 : Option Addr} {c3 : Nat}
    (hA : EraseAt w h v l us j a c0 W) (hb2 : Below W.heap.size W w2) (ho : (w2.alloc O).ownsRow (w.heap.size + 3) 44 8 (.slice a j c0) j xs) (hf : Term.Flat (veil (seen (w.heap.size + 3) (.slice a j c0)) (w2.alloc O)) xs us)
    (hT : TmIs (veil (from_ M) w2) hd q2 l2 c2 u) (hM : W.heap.size ≤ M) (ho3 : w3.ownsRow (w.heap.size + 3) 44 8 (.slice a3 (j + 1) c3) (j + 1) (xs ++ tcells hd q2 l2 c2))
    (hg : (w2.alloc O).grownBy w3 (Value.slice a j c0).ownBlock) (hat : (Value.slice a3 (j + 1) c3).ownBlock = (Value.slice a j c0).ownBlock ∨ (Value.slice a3 (j + 1) c3).ownBlock = some (w2.alloc O).heap.size) :
    (w3.cell? ⟨w.heap.size + 2, 7, none⟩ = some (.slice a j c0) ∧ w3.frozen? ⟨w.heap.size + 2, 7, none⟩ = false) ∧ EraseAt w h v l (us ++ [u]) (j + 1) a3 c3 (w3.setCell ⟨w.heap.size + 2, 7, none⟩ (.slice a3 (j + 1) c3)) ∧ Below w.heap.size w w3 ∧ (∀ b, b < w.heap.size + 3 → w3.heap[b]? = W.heap[b]?) ∧ (∀ b, W.heap.size ≤ b → b < (w2.alloc O).heap.size → w3.heap[b]? = (w2.alloc O).heap[b]?) := by
  have hout := lt_of_block hA.out
  have hW2 := hb2.size
  have hsz : (w2.alloc O).heap.size = w2.heap.size + 1 := by simp
  have hge : ∀ g, (Value.slice a j c0).ownBlock = some g → w.heap.size + 3 ≤ g ∧ g < W.heap.size := fun g hgg => by
    obtain ⟨ys, h1, _⟩ := hA.row
    rw [hA.len] at h1
    exact h1.lt g hgg
  have hstay : ∀ b, b < w.heap.size + 3 → w3.heap[b]? = W.heap[b]? := fun b hb => by
    rw [hg.block b (by omega) (fun e => by have := hge b e.symm; omega)]
    exact ((box_new (w := w2) O).block b (by omega)).trans (hb2.block b (by omega))
  have hout3 := (hstay (w.heap.size + 2) (by omega)).trans hA.out
  have hoth : ∀ b, b ≠ w.heap.size + 2 → (w3.setCell ⟨w.heap.size + 2, 7, none⟩ (.slice a3 (j + 1) c3)).heap[b]? = w3.heap[b]? := fun b hb => Below.heap_setCell _ _ _ _ hb
  have hrow : RowM (w.heap.size + 3) (.slice a3 (j + 1) c3) (us ++ [u]) w3 := by
    have hlen := hA.len
    refine row_step (v := .slice a j c0) (W := w2.alloc O) (M := M) (hd := hd) (q := q2) (l := l2) (c := c2) (by rw [hlen]; exact ho) hf (hT.reads' (veil_to fun b hb hp => ⟨hp, (box_new (w := w2) O).block b hb⟩)) (by omega) (fun g hgg => by have := hge g hgg; omega) (by rw [hlen]; exact ho3) hg hat
  have hbel : Below w.heap.size w w3 := by
    have h1 : Below w.heap.size w (w2.alloc O) := below_then hA.below (hb2.alloc (by omega) O) hA.below.size
    exact h1.grown hg h1.size fun g hgg => by have := hge g hgg; omega
  refine ⟨⟨by simp [World.cell?, hout3], by simp [World.frozen?, hout3]⟩, ⟨hbel.setCell (p := ⟨w.heap.size + 2, 7, none⟩) (by show w.heap.size ≤ w.heap.size + 2; omega) _, ?_, ?_, ?_, hrow.off (fun b hb => hoth b (by omega)), by rw [List.length_append, hA.len]; rfl⟩, hbel, hstay, fun b h1 h2 => hg.block b h2 (fun e => by have := hge b e.symm; omega)⟩
  · exact (hoth _ (by omega)).trans ((hstay _ (by omega)).trans hA.box)
  · exact (hoth _ (by omega)).trans ((hstay _ (by omega)).trans hA.res)
  · simp [World.setCell, Array.getElem?_modify, hout3]
theorem bare_ok {h : Hd} (hk : Term.HdOk h.h) : Term.HdOk (bareH h) := by
  unfold bareH
  split
  · exact ⟨by show (0 : Int) ≤ 2 ∧ (2 : Int) ≤ 255; omega, hk.op, hk.pl, hk.n, hk.name, hk.arg, hk.exn⟩
  · exact hk
theorem bare_cells (h : Hd) (q : Option Addr) (l c : Nat) : (#[.int .u8 (bareH h).k, .int .u8 (bareH h).op, .int .i64 (bareH h).pl, .int .i64 (bareH h).n, .string (bareH h).name, .string (bareH h).arg, .string (bareH h).exn, .slice q l c] : Array Value) = #[.int .u8 (bareH h).k, .int .u8 h.h.op, .int .i64 h.h.pl, .int .i64 h.h.n, .string h.h.name, .string h.h.arg, .string h.h.exn, .slice q l c] := by
  unfold bareH
  split <;> rfl
/-- The end: in new memory alone. -/
theorem erase_end {w : World} {h : Hd} {v : V} {l : Nat} {us : List Tm} {j : Nat} {a : Option Addr} {c0 : Nat} {W W' : World} (hk : Term.HdOk h.h) (hA : EraseAt w h v l us j a c0 W) (hoth : ∀ b, b ≠ w.heap.size + 1 → W'.heap[b]? = W.heap[b]?) (hb : Below w.heap.size w W') :
    EraseEnd (.node (bareH h) us) w (.returned (.agg #[.int .u8 (bareH h).k, .int .u8 h.h.op, .int .i64 h.h.pl, .int .i64 h.h.n, .string h.h.name, .string h.h.arg, .string h.h.exn, .slice a j c0])) W' := by
  have hlen := hA.len
  have hsl : j ≤ c0 ∧ c0 ≤ maxLen := by
    obtain ⟨xs, h1, _⟩ := hA.row
    obtain ⟨a', c', he, hc1, hc2⟩ := own_cap h1
    injection he with e1 e2 e3
    subst e1 e3
    exact ⟨by rw [← hlen]; exact hc2, hc1⟩
  have hkk : Term.Kids (veil (from_ (w.heap.size + 3)) W) a us := by
    have := hA.row
    rw [← hlen] at this
    exact this.kids
  refine ⟨a, c0, ?_, ⟨rfl, rfl, bare_ok hk, ?_, hkk.reads' (veil_to fun b hbl hp => ?_)⟩, hb⟩
  · show _ = Ending.returned (.agg #[.int .u8 (bareH h).k, .int .u8 (bareH h).op, .int .i64 (bareH h).pl, .int .i64 (bareH h).n, .string (bareH h).name, .string (bareH h).arg, .string (bareH h).exn, .slice a us.length c0])
    rw [bare_cells, hlen]
  · show us.length ≤ c0 ∧ c0 ≤ maxLen
    rw [hlen]; exact hsl
  · have hp' : w.heap.size + 3 ≤ b := of_decide_eq_true hp
    exact ⟨decide_eq_true (by omega), hoth b (by omega)⟩
/-- A load of a term, as it runs. -/
theorem exec_at {op : Oper} {a : Act} {w : World} (x : Operand) (ho : op.op = .load 33 x) (b o : Nat) (hx : a.eval x = .pointer (some ⟨b, o, none⟩)) {h : Hd} {v : V} {l : Nat} (hr : w.rangeAt b o (acells h v l)) : (execOp a.eval op).run Tryd.prog w = .ok (.value (.agg #[.int .u8 h.h.k, .int .u8 h.h.op, .int .i64 h.h.pl, .int .i64 h.h.n, .string h.h.name, .string h.h.arg, .string h.h.exn, .int .i64 h.rho, .slice v.ra h.rhos.length v.rc, .slice v.ea h.e.length v.ec, .int .u8 h.ty.h.k, .int .i64 h.ty.h.r, .slice v.tea h.ty.h.e.length v.tec, .slice v.tka h.ty.ks.length v.tkc, .int .u8 h.re.h.k, .int .i64 h.re.h.r, .slice v.sea h.re.h.e.length v.sec, .slice v.ska h.re.ks.length v.skc, .slice v.ka l v.kc])) w := by
  unfold execOp
  simp only [ho, hx, Instr.loadAt, Instr.sureAddr, Sem.run_bind, Sem.run_pure, Result.andThen_ok, run_loadVar_mid w b o 33 (acells h v l) _ hr Tryd.underlying33 rfl atInfo]
theorem told_of {a0 : Option Addr} {j c0 n cap gg : Nat} {w2 : World} {O : Obj} (h : (Value.slice a0 j c0).ownBlock = some gg ∨ gg = w2.heap.size + 1) : (Value.slice (some ⟨gg, 0, none⟩) n cap).ownBlock = (Value.slice a0 j c0).ownBlock ∨ (Value.slice (some ⟨gg, 0, none⟩) n cap).ownBlock = some (w2.alloc O).heap.size := by
  rcases h with h | h
  · exact .inl (by rw [h]; rfl)
  · exact .inr (by rw [h]; simp [Value.ownBlock])
theorem undrew' {B : Nat} {w w2 : World} (h : Below B w.drew w2) : Below B w w2 := ⟨h.os, h.tape, h.output, h.size, h.block⟩
theorem new8 {w : World} {N : Nat} {h : Term.Hd} {q : Option Addr} {l c : Nat} {ty : TypeId} (hN : N = w.heap.size) (j : Nat) : ∀ u, (tcells h q l c)[j]? = some u → (w.alloc (.cells #[.int .u8 h.k, .int .u8 h.op, .int .i64 h.pl, .int .i64 h.n, .string h.name, .string h.arg, .string h.exn, .slice q l c] ty)).cell? ((⟨N, 0, none⟩ : Addr).add j) = some u := by
  intro u hu
  subst hN
  rw [Addr.add_lit, Nat.zero_add, World.cell?_alloc_mark]
  simpa [tcells] using hu
theorem cells_one8 (h : Term.Hd) (q : Option Addr) (l c : Nat) : ∀ u ∈ tcells h q l c, u.oneCell' = true := by
  intro u hu
  simp [tcells] at hu
  rcases hu with rfl | rfl | rfl | rfl | rfl | rfl | rfl | rfl <;> rfl
theorem set8_other (W : World) (N : Nat) (a b c d e f g i : Value) {k : Nat} (hk : k ≠ N) : ((((((((W.setCell ⟨N, 0, none⟩ a).setCell ⟨N, 1, none⟩ b).setCell ⟨N, 2, none⟩ c).setCell ⟨N, 3, none⟩ d).setCell ⟨N, 4, none⟩ e).setCell ⟨N, 5, none⟩ f).setCell ⟨N, 6, none⟩ g).setCell ⟨N, 7, none⟩ i).heap[k]? = W.heap[k]? := by
  rw [Below.heap_setCell _ _ _ _ hk, Below.heap_setCell _ _ _ _ hk, Below.heap_setCell _ _ _ _ hk, Below.heap_setCell _ _ _ _ hk, Below.heap_setCell _ _ _ _ hk, Below.heap_setCell _ _ _ _ hk, Below.heap_setCell _ _ _ _ hk, Below.heap_setCell _ _ _ _ hk]
theorem set8_below {B N : Nat} {W : World} (a b c d e f g i : Value) (hN : B ≤ N) : Below B W ((((((((W.setCell ⟨N, 0, none⟩ a).setCell ⟨N, 1, none⟩ b).setCell ⟨N, 2, none⟩ c).setCell ⟨N, 3, none⟩ d).setCell ⟨N, 4, none⟩ e).setCell ⟨N, 5, none⟩ f).setCell ⟨N, 6, none⟩ g).setCell ⟨N, 7, none⟩ i) :=
  (((((((((Below.refl B W).setCell (p := ⟨N, 0, none⟩) hN _).setCell (p := ⟨N, 1, none⟩) hN _).setCell (p := ⟨N, 2, none⟩) hN _).setCell (p := ⟨N, 3, none⟩) hN _).setCell (p := ⟨N, 4, none⟩) hN _).setCell (p := ⟨N, 5, none⟩) hN _).setCell (p := ⟨N, 6, none⟩) hN _).setCell (p := ⟨N, 7, none⟩) hN _)
end Aterm
end Go.Proofs.YtolpdhkgkjnbfaaDoor
