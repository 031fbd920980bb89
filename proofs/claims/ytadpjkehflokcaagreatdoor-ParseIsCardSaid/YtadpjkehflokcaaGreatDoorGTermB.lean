/-What can be read in one world and in another; a world with some blocks out of sight. The walk of the document's row of all nodes: the loop. Rows of terms that a call made, read. Sameness of terms, but for places: as functions. The walk of the document's sameness of terms. On the sameness of terms: mathematics. The walk of the program's look at a node's fields. How terms, and slices of them, come in as arguments. -/
import Derived.Test.YtadpjkehflokcaaGreatDoorGTermA
import Derived.Deep.QuietTactic
import Derived.BigQuiet
import Derived.Test.YtadpjkehflokcaaGreatDoorGWordsA
import Derived.StillTailTactics
import Derived.RegionTactic
import Derived.BigRegion
namespace Go.Proofs.YtadpjkehflokcaaGreatDoor
open Go.RowKit
set_option linter.unusedVariables false
namespace Term

/-- What can be read in the one world reads so in the other. -/
def Reads (w0 W : World) : Prop := ∀ a v, w0.cell? a = some v → W.cell? a = some v
theorem Reads.of_below {w0 W : World} (h : Below w0.heap.size w0 W) : Reads w0 W := fun a v hv => (h.cell (World.block_lt_of_cell? w0 _ hv)).trans hv
theorem Reads.trans {a b c : World} (h : Reads a b) (k : Reads b c) : Reads a c := fun x v hv => k x v (h x v hv)
/-- The world, but for the blocks that aren't looked at. -/
def veil (P : Nat → Bool) (W : World) : World := { W with heap := W.heap.mapIdx fun i o => if P i = true then o else .cells #[] 0 }
theorem veil_size (P : Nat → Bool) (W : World) : (veil P W).heap.size = W.heap.size := by simp [veil]
theorem veil_at {P : Nat → Bool} {W : World} {b : Nat} (h : P b = true) : (veil P W).heap[b]? = W.heap[b]? := by
  unfold veil
  simp only [Array.getElem?_mapIdx]
  cases W.heap[b]? with
  | none => rfl
  | some o => simp [h]
theorem veil_seen {P : Nat → Bool} {W : World} {a : Addr} {v : Value} (h : (veil P W).cell? a = some v) : P a.block = true ∧ W.cell? a = some v := by
  cases hp : P a.block
  · unfold World.cell? veil at h
    simp only [Array.getElem?_mapIdx] at h
    cases ho : W.heap[a.block]? with
    | none => rw [ho] at h; simp at h
    | some o => rw [ho] at h; simp [hp] at h
  · exact ⟨rfl, by rw [← World.cell?_of_block (veil_at hp)]; exact h⟩
theorem veil_reads (P : Nat → Bool) (W : World) : Reads (veil P W) W := fun a v h => (veil_seen h).2
/-- From one to the other: what is seen of the one stands in the other, and is seen there. -/
theorem veil_to {P P' : Nat → Bool} {W W' : World} (h : ∀ b, b < W.heap.size → P b = true → P' b = true ∧ W'.heap[b]? = W.heap[b]?) : Reads (veil P W) (veil P' W') := fun a v hv => by
  obtain ⟨hp, hw⟩ := veil_seen hv
  obtain ⟨h1, h2⟩ := h a.block (World.block_lt_of_cell? W _ hw) hp
  rw [World.cell?_of_block (veil_at h1), World.cell?_of_block h2]
  exact hw
theorem Kids.reads' {w W : World} {p : Option Addr} {ts : List Tm} (h : Kids w p ts) (hb : Reads w W) : Kids W p ts := by
  induction h with
  | nokids p => exact .nokids p
  | atkids b o ts q c hh hc hl hk ih => exact .atkids b o ts q c hh (fun i hi j v hv => hb _ _ (hc i hi j v hv)) hl (fun i hi => ih i hi)
theorem TmIs.reads' {w W : World} {h : Hd} {p : Option Addr} {l c : Nat} {t : Tm} (k : TmIs w h p l c t) (hb : Reads w W) : TmIs W h p l c t := ⟨k.head, k.len, k.ok, k.cap, k.kids.reads' hb⟩
theorem Flat.reads {w W : World} (hb : Reads w W) : ∀ {ts : List Tm} {xs : List Value}, Flat w xs ts → Flat W xs ts
  | [], xs, h => h
  | t :: ts, xs, ⟨q, c, zs, he, hT, h⟩ => ⟨q, c, zs, he, hT.reads' hb, h.reads hb⟩
theorem veil_own {P : Nat → Bool} {W : World} {B e size n : Nat} {v : Value} {xs : List Value} (h : W.ownsRow B e size v n xs) (hp : ∀ k, v.ownBlock = some k → P k = true) : (veil P W).ownsRow B e size v n xs := by
  refine ⟨h.1, h.2.imp id ?_⟩
  rintro ⟨g, cap, cur, rfl, hg, hh, r⟩
  exact ⟨g, cap, cur, rfl, hg, by rw [veil_at (hp g rfl)]; exact hh, r⟩
/-- What is seen of a world through a veil, of an elder one whose blocks are all seen. -/
theorem veil_from {P : Nat → Bool} {w V : World} (h : ∀ b, b < w.heap.size → P b = true ∧ V.heap[b]? = w.heap[b]?) : Reads w (veil P V) := fun a v hv => by
  obtain ⟨h1, h2⟩ := h a.block (World.block_lt_of_cell? w _ hv)
  rw [World.cell?_of_block (veil_at h1), World.cell?_of_block h2]
  exact hv
/-- A row of terms whose kids are there. -/
theorem kids_of_flat {W : World} {b : Nat} {xs : List Value} {ts : List Tm} (hc : ∀ j u, xs[j]? = some u → W.cell? ⟨b, j, none⟩ = some u) (hf : Flat W xs ts) : Kids W (some ⟨b, 0, none⟩) ts := by
  have each : ∀ i, ∃ r : Option Addr × Nat, i < ts.length → TmIs W (tget ts i).h r.1 (tget ts i).ks.length r.2 (tget ts i) ∧ ∀ j v, (tcells (tget ts i).h r.1 (tget ts i).ks.length r.2)[j]? = some v → xs[i * 8 + j]? = some v := by
    intro i
    by_cases hi : i < ts.length
    · obtain ⟨q, c, h1, h2⟩ := hf.get i hi
      exact ⟨(q, c), fun _ => ⟨h1, h2⟩⟩
    · exact ⟨(none, 0), fun h => absurd h hi⟩
  obtain ⟨R, hR⟩ := Classical.axiomOfChoice each
  refine .atkids b 0 ts (fun i => (R i).1) (fun i => (R i).2) (fun i hi => (hR i hi).1.ok) (fun i hi j v hv => ?_) (fun i hi => (hR i hi).1.cap) (fun i hi => (hR i hi).1.kids)
  rw [Nat.zero_add]
  exact hc _ _ ((hR i hi).2 j v hv)
end Term
end Go.Proofs.YtadpjkehflokcaaGreatDoor
namespace Go.Proofs.YtadpjkehflokcaaGreatDoor
open Go.RowKit
set_option linter.unusedVariables false
namespace Term

theorem own_below {w W : World} {B e size n : Nat} {v : Value} {xs : List Value} (h : w.ownsRow B e size v n xs) (hb : Below w.heap.size w W) : W.ownsRow B e size v n xs :=
  h.kept (row := none) ⟨hb.os, hb.tape, hb.output, hb.size, fun q hq _ => hb.block q hq⟩ (by cases v.ownBlock <;> simp)

set_option maxRecDepth 10000 in
set_option maxHeartbeats 6400000 in
theorem refAll_walk : ∀ (m : Nat) (t : Tm) (h : Hd) (p : Option Addr) (l c : Nat) (w0 w : World), wt t ≤ m → wt t ≤ 1000000 → TmIs w0 h p l c t → Below w0.heap.size w0 w →
    Calls Tryz.prog 28 #[.agg #[.int .u8 h.k, .int .u8 h.op, .int .i64 h.pl, .int .i64 h.n, .string h.name, .string h.arg, .string h.exn, .slice p l c]] w fun e w' =>
      ∃ g c' xs, e = .returned (.slice (some ⟨g, 0, none⟩) (wt t) c') ∧ w'.ownsRow w.heap.size 29 8 (.slice (some ⟨g, 0, none⟩) (wt t) c') (wt t) xs ∧ Flat w0 xs (flatT t) ∧ Below w.heap.size w w' := by
  intro m
  induction m with
  | zero => intro t h p l c w0 w hm; have := wt_pos t; omega
  | succ m ih =>
    intro t h p l c w0 w hm hsz hT hb0
    obtain ⟨i0, hi, hz0, hz1, hz2⟩ := info_parts infoTerm
    have HI := Lib.hid hi; have HZ0 := Lib.hid hz0; have HZ1 := Lib.hid hz1; have HZ2 := Lib.hid hz2
    have hone := Flat.one hT
    have hhd := hT.head
    obtain ⟨k, op, pl, nn, nm, ar, ex⟩ := h
    have hlc : l ≤ 9223372036854775807 := by have := hT.cap; unfold maxLen at this; omega
    have hbox : ∀ O : Obj, Below w.heap.size w (w.alloc O) := fun O => (Below.refl _ _).alloc (Nat.le_refl _) _
    have hrow : ∀ w1 : World, w1.heap.size = w.heap.size + 1 → (w1.alloc (.cells #[.int .u8 k, .int .u8 op, .int .i64 pl, .int .i64 nn, .string nm, .string ar, .string ex, .slice p l c] 29)).ownsRow (w.heap.size + 1) 29 8 (.slice (some ⟨w.heap.size + 1, 0, none⟩) 1 1) 1 (tcells ⟨k, op, pl, nn, nm, ar, ex⟩ p l c) := fun w1 h1 => by
      have := World.ownsRow_lit (base := w.heap.size + 1) (e := 29) (size := 8) w1 #[.int .u8 k, .int .u8 op, .int .i64 pl, .int .i64 nn, .string nm, .string ar, .string ex, .slice p l c] 1 (by omega) (by unfold maxLen; omega) rfl
      rw [h1] at this
      exact this
    have HBOX := Lib.hid hbox; have IH := Lib.hid ih; have HT := Lib.hid hT; have HM := Lib.hid hm; have HSZ := Lib.hid hsz; have HB0 := Lib.hid hb0; have HROW := Lib.hid hrow; have HONE := Lib.hid hone; have HHD := Lib.hid hhd
    clear ih hT hm hbox hsz hb0 hrow hi hz0 hz1 hz2 hone hhd
    go_enter Tryz.func28, Tryz.ntmps28
    go_wp2_with (fail)
    go_loopw [3, 10] (fun v i wr => ∃ (j : Nat) (xs : List Value), j ≤ l ∧ i = .int .i64 j ∧ wr.ownsRow (w.heap.size + 1) 29 8 v (1 + wts (t.ks.take j)) xs ∧ Flat w0 xs (t :: flatK (t.ks.take j)) ∧
      Below (w.alloc (.cells #[.int .u8 k, .int .u8 op, .int .i64 pl, .int .i64 nn, .string nm, .string ar, .string ex, .slice p l c] 29)).heap.size (w.alloc (.cells #[.int .u8 k, .int .u8 op, .int .i64 pl, .int .i64 nn, .string nm, .string ar, .string ex, .slice p l c] 29)) wr) (fun _ i _ => l - (intOf i).toNat)
    case atStart =>
      refine ⟨0, _, Nat.zero_le _, rfl, HROW.out _ (by simp), ?_, (Below.refl _ _).alloc (Nat.le_refl _) _⟩
      rw [List.take_zero, flatK_nil]
      exact HONE.out
    case round =>
      obtain ⟨j, xs, hj, rfl, hown, hfl, hw⟩ := hrel
      have HW := Lib.hid hw; have HOWN := Lib.hid hown; have HFL := Lib.hid hfl
      have b7 := boxAt hw 7 rfl
      clear hw hown hfl
      have HWW := Lib.hid ((HBOX.out _).trans (HW.out.mono (HBOX.out _).size))
      by_cases hlt : j < l
      · have hjk : j < t.ks.length := by rw [HT.out.len]; exact hlt
        have hst := flatK_take t.ks j hjk
        have hsw := wts_take t.ks j hjk
        have hB0r := HB0.out.trans (HWW.out.mono HB0.out.size)
        obtain ⟨b, o, q, c', rfl, hkid0, c0, c1, c2, c3, c4, c5, c6, c7⟩ := HT.out.kids.get j hjk
        have hkid := hkid0
        have hkb : b < w0.heap.size := World.block_lt_of_cell? w0 _ c0
        have e0 := (hB0r.cell (p := ⟨b, o + j * 8, none⟩) hkb).trans c0
        have e1 := (hB0r.cell (p := ⟨b, o + j * 8 + 1, none⟩) hkb).trans c1
        have e2 := (hB0r.cell (p := ⟨b, o + j * 8 + 2, none⟩) hkb).trans c2
        have e3 := (hB0r.cell (p := ⟨b, o + j * 8 + 3, none⟩) hkb).trans c3
        have e4 := (hB0r.cell (p := ⟨b, o + j * 8 + 4, none⟩) hkb).trans c4
        have e5 := (hB0r.cell (p := ⟨b, o + j * 8 + 5, none⟩) hkb).trans c5
        have e6 := (hB0r.cell (p := ⟨b, o + j * 8 + 6, none⟩) hkb).trans c6
        have e7 := (hB0r.cell (p := ⟨b, o + j * 8 + 7, none⟩) hkb).trans c7
        have hwk := wts_get hjk
        have hwt := wt_ks t
        have hwl := wts_take_le t.ks (j + 1)
        have HST := Lib.hid hst; have HK := Lib.hid hkid; have HSW := Lib.hid hsw; have HWL := Lib.hid hwl; have HB0R := Lib.hid hB0r
        have HWK := Lib.hid hwk; have HWT := Lib.hid hwt
        clear hst hkid hkid0 hwk hwt hjk hsw hwl hkb c0 c1 c2 c3 c4 c5 c6 c7 hB0r
        go_wp2_with (fail)
        refine (IH.out (tget t.ks j) _ q _ c' w0 _ (by have := HM.out; have := HWK.out; have := HWT.out; omega) (by have := HSZ.out; have := HWK.out; have := HWT.out; omega) HK.out HB0R.out).mono ?_
        rintro e w2 ⟨g2, c2, ys, rfl, hown2, hfl2, hb2⟩
        have HW2 := Lib.hid (HW.out.trans (hb2.mono HW.out.size))
        have HO2 := Lib.hid (own_below HOWN.out hb2)
        have HC2 := Lib.hid (hown2.cells (g := g2) rfl)
        have HL2 := Lib.hid hown2.1
        have HF2 := Lib.hid hfl2
        have HBS := Lib.hid HW2.out.size
        clear hb2 hown2 hfl2 b7 e0 e1 e2 e3 e4 e5 e6 e7
        obtain ⟨X, hX⟩ : ∃ X, X = wt (tget t.ks j) := ⟨_, rfl⟩
        obtain ⟨Y, hY⟩ : ∃ Y, Y = wts (t.ks.take j) := ⟨_, rfl⟩
        have hbound : 1 + Y + X ≤ 1000000 := by
          have h1 := HSW.out; have h2 := HWL.out; have h3 := HWT.out; have h4 := HSZ.out
          omega
        rw [← hX] at HL2 ⊢
        rw [← hY] at HO2
        have HX := Lib.hid hX; have HY := Lib.hid hY; have HBD := Lib.hid hbound
        clear hX hY hbound
        go_wp2_with (at_builtin; refine wpList_append_own _ rfl (.tmp 13) (.tmp 19) 27 rfl (w.heap.size + 1) 29 i0 (.agg #[.int .u8 0, .int .u8 0, .int .i64 0, .int .i64 0, .string ⟨#[]⟩, .string ⟨#[]⟩, .string ⟨#[]⟩, .slice none 0 0]) 8 96 Tryz.underlying27 HI.out HZ0.out HZ1.out HZ2.out rfl (by decide) _ _ _ rfl HO2.out ⟨g2, 0, none⟩ X c2 ys rfl HL2.out HC2.out (Flat.cells1 HF2.out) (by have := HBD.out; unfold maxLen; omega) (by have := HBD.out; omega) (by have := HBS.out; simp at this; omega) ?_; intro v3 w3 hown3 hgrow3 hnil3; have AFT := Lib.hid (HW2.out.grown hgrow3 HBS.out (fun q hq => by have := (HO2.out.lt q hq).1; simp; omega)); have HO3 := Lib.hid hown3; clear hown3 hgrow3 hnil3)
        go_roundw
        case rel =>
          refine ⟨j + 1, xs ++ ys, by omega, by go_num, ?_, ?_, AFT.out⟩
          · rw [HSW.out, ← HX.out, ← HY.out, show 1 + (Y + X) = 1 + Y + X from by omega]; exact HO3.out
          · rw [HST.out]; exact HFL.out.append HF2.out
        case measure => simp [intOf]; omega
      · obtain rfl : j = l := by omega
        have hall : t.ks.take j = t.ks := List.take_of_length_le (by rw [HT.out.len]; exact Nat.le_refl _)
        have ho := HOWN.out
        have hf := HFL.out
        rw [hall] at ho hf
        rw [← flatT_eq] at hf
        have hwt := wt_ks t
        rw [show 1 + wts t.ks = wt t from by omega] at ho
        obtain ⟨g, cap, hv⟩ : ∃ g cap, u3 = .slice (some ⟨g, 0, none⟩) (wt t) cap := by
          rcases ho.2 with ⟨_, h0⟩ | ⟨g, cap, _, hv, _⟩
          · have := wt_pos t; omega
          · exact ⟨g, cap, hv⟩
        subst hv
        have HO := Lib.hid ho; have HF := Lib.hid hf
        clear ho hf hall hwt
        go_wp2_with (fail)
        go_ret
        refine ⟨g, cap, xs, rfl, ?_, HF.out, HWW.out⟩
        exact ⟨HO.out.1, HO.out.2.imp id (fun ⟨g, cap, cur, a, b, r⟩ => ⟨g, cap, cur, a, by omega, r⟩)⟩
end Term
end Go.Proofs.YtadpjkehflokcaaGreatDoor
namespace Go.Proofs.YtadpjkehflokcaaGreatDoor
open Go.RowKit
set_option linter.unusedVariables false
namespace Term

theorem below_then {B : Nat} {a w1 w2 : World} (h : Below B a w1) (hb : Below w1.heap.size w1 w2) (hB : B ≤ w1.heap.size) : Below B a w2 := h.trans (hb.mono hB)
theorem own_slice {w : World} {base e size n : Nat} {v : Value} {xs : List Value} (h : w.ownsRow base e size v n xs) : ∃ a c, v = .slice a n c ∧ c ≤ 9223372036854775807 ∧ n ≤ c := by
  rcases h.2 with ⟨hv, h0⟩ | ⟨g, cap, _, hv, _, _, h1, h2, _⟩
  · subst h0; exact ⟨none, 0, hv, by omega, Nat.le_refl _⟩
  · unfold maxLen at h2; exact ⟨_, cap, hv, by omega, h1⟩
theorem own_at {w : World} {base e size n c : Nat} {a : Option Addr} {xs : List Value} (h : w.ownsRow base e size (.slice a n c) n xs) (hn : 0 < n) : ∃ g, a = some ⟨g, 0, none⟩ := by
  rcases h.2 with ⟨_, h0⟩ | ⟨g, cap, _, hv, _⟩
  · omega
  · injection hv with hv; exact ⟨g, hv⟩
theorem row_cell {w : World} {base e size n c g : Nat} {xs : List Value} (h : w.ownsRow base e size (.slice (some ⟨g, 0, none⟩) n c) n xs) {j : Nat} {u : Value} (hu : xs[j]? = some u) : w.cell? ⟨g, j, none⟩ = some u := by
  have := h.cells (g := g) rfl j u hu
  rw [Addr.add_lit] at this
  simpa using this
theorem flat_kind {w : World} {F : List Tm} {xs : List Value} (h : Flat w xs F) {j : Nat} (hj : j < F.length) : xs[j * 8]? = some (.int .u8 (tget F j).h.k) := by
  obtain ⟨q, c, _, hc⟩ := h.get j hj
  exact hc 0 _ rfl
end Term
end Go.Proofs.YtadpjkehflokcaaGreatDoor
namespace Go.Proofs.YtadpjkehflokcaaGreatDoor
open Go.RowKit
set_option linter.unusedVariables false
namespace Term
open Words (str_no str_yes)

def sameH (a b : Hd) : Bool := decide (a.k = b.k ∧ a.op = b.op ∧ a.n = b.n ∧ a.name = b.name ∧ a.arg = b.arg ∧ a.exn = b.exn)
mutual
/-- The same, but for places? -/
def sameT : Tm → Tm → Bool
  | .node h l, u => sameH h u.h && decide (l.length = u.ks.length) && sameK l u.ks
def sameK : List Tm → List Tm → Bool
  | [], _ => true
  | _ :: _, [] => true
  | t :: ts, u :: us => sameT t u && sameK ts us
end
theorem sameT_eq (t u : Tm) : sameT t u = (sameH t.h u.h && decide (t.ks.length = u.ks.length) && sameK t.ks u.ks) := by
  cases t
  conv => lhs; unfold sameT
  rfl
theorem sameK_cons (t u : Tm) (ts us : List Tm) : sameK (t :: ts) (u :: us) = (sameT t u && sameK ts us) := by conv => lhs; unfold sameK
theorem sameK_nil (us : List Tm) : sameK [] us = true := by conv => lhs; unfold sameK
theorem sameK_step (ts us : List Tm) (j : Nat) (h1 : j < ts.length) (h2 : j < us.length) : sameK (ts.drop j) (us.drop j) = (sameT (tget ts j) (tget us j) && sameK (ts.drop (j + 1)) (us.drop (j + 1))) := by
  rw [drop_tget ts j h1, drop_tget us j h2, sameK_cons]

end Term
end Go.Proofs.YtadpjkehflokcaaGreatDoor
namespace Go.Proofs.YtadpjkehflokcaaGreatDoor
open Go.RowKit
set_option linter.unusedVariables false
namespace Term
open Words (str_no str_yes)

set_option maxRecDepth 100000 in
set_option maxHeartbeats 6400000 in
theorem refSame_walk : ∀ (m : Nat) (t u : Tm) (h h' : Hd) (p p' : Option Addr) (l c l' c' : Nat) (w : World), wt t ≤ m → TmIs w h p l c t → TmIs w h' p' l' c' u →
    Calls Tryz.prog 17 #[.agg #[.int .u8 h.k, .int .u8 h.op, .int .i64 h.pl, .int .i64 h.n, .string h.name, .string h.arg, .string h.exn, .slice p l c],
      .agg #[.int .u8 h'.k, .int .u8 h'.op, .int .i64 h'.pl, .int .i64 h'.n, .string h'.name, .string h'.arg, .string h'.exn, .slice p' l' c']] w fun e w' => e = .returned (.bool (sameT t u)) ∧ Below w.heap.size w w' := by
  intro m
  induction m with
  | zero => intro t u h h' p p' l c l' c' w hm; have := wt_pos t; omega
  | succ m ih =>
    intro t u h h' p p' l c l' c' w hm hT hU
    obtain ⟨k, op, pl, nn, nm, ar, ex⟩ := h
    obtain ⟨k', op', pl', nn', nm', ar', ex'⟩ := h'
    have hlc : l ≤ 9223372036854775807 := by have := hT.cap; unfold maxLen at this; omega
    have hlc' : l' ≤ 9223372036854775807 := by have := hU.cap; unfold maxLen at this; omega
    have hbox : ∀ O O' : Obj, Below w.heap.size w ((w.alloc O).alloc O') := fun O O' => ((Below.refl _ _).alloc (Nat.le_refl _) _).alloc (by simp) _
    have HBOX := Lib.hid hbox; have HM := Lib.hid hm
    clear hm hbox
    by_cases hk : k ≠ k'
    · have hr : sameT t u = false := by rw [sameT_eq, hT.head, hU.head]; unfold sameH; simp [hk]
      have HR := Lib.hid hr
      have n1 : (k == k') = false := by simpa using hk
      have n2 : (k != k') = true := by simpa using hk
      clear hr hT hU ih hk
      go_enter Tryz.func17, Tryz.ntmps17
      go_wp2_with (fail)
      go_ret
      exact ⟨ret_bool HR.out.symm, HBOX.out _ _⟩
    have hk' : k = k' := Classical.not_not.1 hk
    clear hk
    subst hk'
    by_cases hop : op ≠ op'
    · have hr : sameT t u = false := by rw [sameT_eq, hT.head, hU.head]; unfold sameH; simp [hop]
      have HR := Lib.hid hr
      have n1 : (op == op') = false := by simpa using hop
      have n2 : (op != op') = true := by simpa using hop
      clear hr hT hU ih hop
      go_enter Tryz.func17, Tryz.ntmps17
      go_wp2_with (fail)
      go_ret
      exact ⟨ret_bool HR.out.symm, HBOX.out _ _⟩
    have hop' : op = op' := Classical.not_not.1 hop
    clear hop
    subst hop'
    by_cases hnn : nn ≠ nn'
    · have hr : sameT t u = false := by rw [sameT_eq, hT.head, hU.head]; unfold sameH; simp [hnn]
      have HR := Lib.hid hr
      have n1 : (nn == nn') = false := by simpa using hnn
      have n2 : (nn != nn') = true := by simpa using hnn
      clear hr hT hU ih hnn
      go_enter Tryz.func17, Tryz.ntmps17
      go_wp2_with (fail)
      go_ret
      exact ⟨ret_bool HR.out.symm, HBOX.out _ _⟩
    have hnn' : nn = nn' := Classical.not_not.1 hnn
    clear hnn
    subst hnn'
    by_cases hnm : nm ≠ nm'
    · have hr : sameT t u = false := by rw [sameT_eq, hT.head, hU.head]; unfold sameH; simp [hnm]
      have HR := Lib.hid hr
      have n1 : (nm.toList == nm'.toList) = false := str_no hnm
      have n2 : (nm.toList != nm'.toList) = true := by rw [bne, str_no hnm]; rfl
      clear hr hT hU ih hnm
      go_enter Tryz.func17, Tryz.ntmps17
      go_wp2_with (fail)
      go_ret
      exact ⟨ret_bool HR.out.symm, HBOX.out _ _⟩
    have hnm' : nm = nm' := Classical.not_not.1 hnm
    clear hnm
    subst hnm'
    by_cases har : ar ≠ ar'
    · have hr : sameT t u = false := by rw [sameT_eq, hT.head, hU.head]; unfold sameH; simp [har]
      have HR := Lib.hid hr
      have n1 : (ar.toList == ar'.toList) = false := str_no har
      have n2 : (ar.toList != ar'.toList) = true := by rw [bne, str_no har]; rfl
      clear hr hT hU ih har
      go_enter Tryz.func17, Tryz.ntmps17
      go_wp2_with (fail)
      go_ret
      exact ⟨ret_bool HR.out.symm, HBOX.out _ _⟩
    have har' : ar = ar' := Classical.not_not.1 har
    clear har
    subst har'
    by_cases hex : ex ≠ ex'
    · have hr : sameT t u = false := by rw [sameT_eq, hT.head, hU.head]; unfold sameH; simp [hex]
      have HR := Lib.hid hr
      have n1 : (ex.toList == ex'.toList) = false := str_no hex
      have n2 : (ex.toList != ex'.toList) = true := by rw [bne, str_no hex]; rfl
      clear hr hT hU ih hex
      go_enter Tryz.func17, Tryz.ntmps17
      go_wp2_with (fail)
      go_ret
      exact ⟨ret_bool HR.out.symm, HBOX.out _ _⟩
    have hex' : ex = ex' := Classical.not_not.1 hex
    clear hex
    subst hex'
    by_cases hll : l ≠ l'
    · have hr : sameT t u = false := by rw [sameT_eq, hT.len, hU.len]; simp [hll]
      have HR := Lib.hid hr
      have n1 : ((l : Int) == (l' : Int)) = false := by rw [beq_eq_false_iff_ne]; omega
      have n2 : ((l : Int) != (l' : Int)) = true := by rw [bne, n1]; rfl
      clear hr hT hU ih
      go_enter Tryz.func17, Tryz.ntmps17
      go_wp2_with (fail)
      go_ret
      exact ⟨ret_bool HR.out.symm, HBOX.out _ _⟩
    have hll' : l = l' := Classical.not_not.1 hll
    clear hll
    subst hll'
    have hr : sameT t u = sameK t.ks u.ks := by rw [sameT_eq, hT.head, hU.head, hT.len, hU.len]; unfold sameH; simp
    have HR := Lib.hid hr; have HT := Lib.hid hT; have HU := Lib.hid hU; have IH := Lib.hid ih
    clear hr hT hU ih hlc'
    go_enter Tryz.func17, Tryz.ntmps17
    go_wp2_with (fail)
    go_loopw [5, 70] (fun _ i wr => ∃ j : Nat, j ≤ l ∧ i = .int .i64 j ∧ sameK t.ks u.ks = sameK (t.ks.drop j) (u.ks.drop j) ∧ Below ((w.alloc (.cells #[.int .u8 k, .int .u8 op, .int .i64 pl, .int .i64 nn, .string nm, .string ar, .string ex, .slice p l c] 29)).alloc (.cells #[.int .u8 k, .int .u8 op, .int .i64 pl', .int .i64 nn, .string nm, .string ar, .string ex, .slice p' l c'] 29)).heap.size ((w.alloc (.cells #[.int .u8 k, .int .u8 op, .int .i64 pl, .int .i64 nn, .string nm, .string ar, .string ex, .slice p l c] 29)).alloc (.cells #[.int .u8 k, .int .u8 op, .int .i64 pl', .int .i64 nn, .string nm, .string ar, .string ex, .slice p' l c'] 29)) wr) (fun _ i _ => l - (intOf i).toNat)
    case atStart => exact ⟨0, Nat.zero_le _, rfl, by rw [List.drop_zero, List.drop_zero], Below.refl _ _⟩
    case round =>
      obtain ⟨j, hj, rfl, hsk, hw⟩ := hrel
      have HW := Lib.hid hw; have HSK := Lib.hid hsk
      have hw1 : Below (w.alloc (.cells #[.int .u8 k, .int .u8 op, .int .i64 pl, .int .i64 nn, .string nm, .string ar, .string ex, .slice p l c] 29)).heap.size (w.alloc (.cells #[.int .u8 k, .int .u8 op, .int .i64 pl, .int .i64 nn, .string nm, .string ar, .string ex, .slice p l c] 29)) wr := ((Below.refl _ _).alloc (Nat.le_refl _) (.cells #[.int .u8 k, .int .u8 op, .int .i64 pl', .int .i64 nn, .string nm, .string ar, .string ex, .slice p' l c'] 29)).trans (hw.mono (by simp))
      have b7 := boxAt hw1 7 rfl
      have b7' := boxAt hw 7 rfl
      rw [show (w.alloc (.cells #[.int .u8 k, .int .u8 op, .int .i64 pl, .int .i64 nn, .string nm, .string ar, .string ex, .slice p l c] 29)).heap.size = w.heap.size + 1 from by simp] at b7'
      have HWW := Lib.hid ((HBOX.out _ _).trans (hw.mono (by simp; omega : w.heap.size ≤ _)))
      clear hw hsk hw1
      by_cases hlt : j < l
      · have hjk : j < t.ks.length := by rw [HT.out.len]; exact hlt
        have hjk' : j < u.ks.length := by rw [HU.out.len]; exact hlt
        have hst := HSK.out
        rw [sameK_step _ _ _ hjk hjk'] at hst
        obtain ⟨b, o, q, d, rfl, hkid, c0, c1, c2, c3, c4, c5, c6, c7⟩ := (HT.out.kids.stay HWW.out).get j hjk
        obtain ⟨b', o', q', d', rfl, hkid', e0, e1, e2, e3, e4, e5, e6, e7⟩ := (HU.out.kids.stay HWW.out).get j hjk'
        have hwk := wts_get hjk
        have hwt := wt_ks t
        have HST := Lib.hid hst; have HK := Lib.hid hkid; have HK' := Lib.hid hkid'
        have HWK := Lib.hid hwk; have HWT := Lib.hid hwt
        clear hst hkid hkid' hwk hwt hjk hjk'
        go_wp2_with (fail)
        go_still_tail 10, (by kernel_rfl)
        go_wp2_with (fail)
        refine (IH.out (tget t.ks j) (tget u.ks j) _ _ q q' _ d _ d' _ (by have := HM.out; have := HWK.out; have := HWT.out; omega) (HK.out.below (Below.refl _ _).drew) (HK'.out.below (Below.refl _ _).drew)).mono ?_
        rintro e w2 ⟨rfl, hb2⟩
        have HW2 := Lib.hid (HW.out.drew.trans (hb2.mono HW.out.size))
        have HWW2 := Lib.hid (HWW.out.drew.trans (hb2.mono HWW.out.size))
        clear hb2 b7 b7' c0 c1 c2 c3 c4 c5 c6 c7 e0 e1 e2 e3 e4 e5 e6 e7
        cases hs : sameT (tget t.ks j) (tget u.ks j)
        · have hr2 := HST.out
          rw [hs, Bool.false_and] at hr2
          have HR2 := Lib.hid hr2
          clear hr2 hs
          go_wp2
          go_ret
          exact ⟨ret_bool (by rw [HR.out, HR2.out]), HWW2.out⟩
        · have hr2 := HST.out
          rw [hs, Bool.true_and] at hr2
          have HR2 := Lib.hid hr2
          clear hr2 hs
          go_wp2
          go_roundw
          case rel => exact ⟨j + 1, by omega, by go_num, HR2.out, HW2.out⟩
          case measure => simp [intOf]; omega
      · obtain rfl : j = l := by omega
        have hr2 := HSK.out
        rw [List.drop_eq_nil_of_le (by rw [HT.out.len]; exact Nat.le_refl _), sameK_nil] at hr2
        have HR2 := Lib.hid hr2
        clear hr2
        go_wp2
        go_ret
        exact ⟨ret_bool (by rw [HR.out, HR2.out]), HWW.out⟩
end Term
end Go.Proofs.YtadpjkehflokcaaGreatDoor
namespace Go.Proofs.YtadpjkehflokcaaGreatDoor
open Go.RowKit
set_option linter.unusedVariables false
namespace Term
open Words (str_no str_yes)

theorem sameK_no {ts us : List Tm} {j : Nat} (h1 : j < ts.length) (h2 : j < us.length) (h : sameT (tget ts j) (tget us j) = false) : sameK (ts.drop j) (us.drop j) = false := by
  rw [sameK_step ts us j h1 h2, h]; rfl
theorem sameK_go {ts us : List Tm} {j : Nat} (h1 : j < ts.length) (h2 : j < us.length) (h : sameT (tget ts j) (tget us j) = true) : sameK (ts.drop j) (us.drop j) = sameK (ts.drop (j + 1)) (us.drop (j + 1)) := by
  rw [sameK_step ts us j h1 h2, h]; rfl
theorem toList_inj {a b : ByteArray} (h : a.toList = b.toList) : a = b := by
  apply Classical.byContradiction
  intro hn
  have := str_no hn
  rw [h] at this
  simp at this
theorem sameH_of {k op pl nn k' op' pl' nn' : Int} {nm ar ex nm' ar' ex' : ByteArray} (h1 : k = k') (h2 : op = op') (h3 : nn = nn') (h4 : nm.toList = nm'.toList) (h5 : ar.toList = ar'.toList) (h6 : ex.toList = ex'.toList) :
    sameH ⟨k, op, pl, nn, nm, ar, ex⟩ ⟨k', op', pl', nn', nm', ar', ex'⟩ = true := by
  unfold sameH
  exact decide_eq_true ⟨h1, h2, h3, toList_inj h4, toList_inj h5, toList_inj h6⟩
end Term
end Go.Proofs.YtadpjkehflokcaaGreatDoor
namespace Go.Proofs.YtadpjkehflokcaaGreatDoor
open Go.RowKit
set_option linter.unusedVariables false
namespace Term

/-- Just these fields, and so many kids? -/
def justP (h f : Hd) (l : Nat) (kids : Int) : Prop := 0 ≤ h.pl ∧ h.op = f.op ∧ h.n = f.n ∧ h.name = f.name ∧ h.arg = f.arg ∧ h.exn = f.exn ∧ (l : Int) = kids
instance (h f : Hd) (l : Nat) (kids : Int) : Decidable (justP h f l kids) := by unfold justP; infer_instance
def justB (h f : Hd) (l : Nat) (kids : Int) : Bool := decide (justP h f l kids)
theorem just_of {k op pl nn op' nn' kids : Int} {nm ar ex nm' ar' ex' : ByteArray} {fk fp : Int} {l : Nat} (h1 : 0 ≤ pl) (h2 : op = op') (h3 : nn = nn') (h4 : nm.toList = nm'.toList) (h5 : ar.toList = ar'.toList) (h6 : ex.toList = ex'.toList) (h7 : (l : Int) = kids) :
    justP ⟨k, op, pl, nn, nm, ar, ex⟩ ⟨fk, op', fp, nn', nm', ar', ex'⟩ l kids := ⟨h1, h2, h3, toList_inj h4, toList_inj h5, toList_inj h6, h7⟩

set_option maxRecDepth 100000 in
set_option maxHeartbeats 6400000 in
theorem just_walk (h f : Hd) (p : Option Addr) (l c : Nat) (kids : Int) (w : World) (hl : l ≤ maxLen) :
    Calls Tryz.prog 93 #[.agg #[.int .u8 h.k, .int .u8 h.op, .int .i64 h.pl, .int .i64 h.n, .string h.name, .string h.arg, .string h.exn, .slice p l c], .int .i64 kids,
      .agg #[.int .u8 f.k, .int .u8 f.op, .int .i64 f.pl, .int .i64 f.n, .string f.name, .string f.arg, .string f.exn]] w fun e w' => e = .returned (.bool (justB h f l kids)) ∧ Below w.heap.size w w' := by
  unfold maxLen at hl
  obtain ⟨k, op, pl, nn, nm, ar, ex⟩ := h
  obtain ⟨fk, op', fp, nn', nm', ar', ex'⟩ := f
  have hbox : ∀ O O' : Obj, Below w.heap.size w ((w.alloc O).alloc O').drew := fun O O' => (((Below.refl _ _).alloc (Nat.le_refl _) O).alloc (by simp) O').drew
  have HBOX := Lib.hid hbox
  clear hbox
  by_cases hj : justP ⟨k, op, pl, nn, nm, ar, ex⟩ ⟨fk, op', fp, nn', nm', ar', ex'⟩ l kids
  · have hr : justB ⟨k, op, pl, nn, nm, ar, ex⟩ ⟨fk, op', fp, nn', nm', ar', ex'⟩ l kids = true := decide_eq_true hj
    have HR := Lib.hid hr
    unfold justP at hj
    simp only at hj
    clear hr
    obtain ⟨hp, rfl, rfl, rfl, rfl, rfl, rfl⟩ := hj
    go_enter Tryz.func93, Tryz.ntmps93
    go_wp2_with (fail)
    go_region
    all_goals go_wp2_with (fail)
    all_goals go_ret
    all_goals exact ⟨ret_bool HR.out.symm, HBOX.out _ _⟩
  · have hr : justB ⟨k, op, pl, nn, nm, ar, ex⟩ ⟨fk, op', fp, nn', nm', ar', ex'⟩ l kids = false := decide_eq_false hj
    have HR := Lib.hid hr; have HJ := Lib.hid hj
    clear hr hj
    go_enter Tryz.func93, Tryz.ntmps93
    go_wp2_with (fail)
    go_region
    all_goals go_wp2_with (fail)
    all_goals go_ret
    all_goals first
      | exact ⟨ret_bool HR.out.symm, HBOX.out _ _⟩
      | exact ⟨ret_bool ((beq_eq_false_iff_ne.2 fun e => HJ.out (just_of (by assumption) (by assumption) (by assumption) (by assumption) (by assumption) (by assumption) e)).trans HR.out.symm), HBOX.out _ _⟩
end Term
end Go.Proofs.YtadpjkehflokcaaGreatDoor
namespace Go.Proofs.YtadpjkehflokcaaGreatDoor
open Go.RowKit Go.ChangeShapes Go.WideShapes Go.Deep
set_option linter.unusedVariables false
namespace Term

/-- A slice of terms, as memory holds it. -/
def IsTms (w : World) (a : Option Addr) (len cap : Nat) (ts : List Tm) : Prop := ts.length = len ∧ len ≤ cap ∧ cap ≤ maxLen ∧ Kids w a ts
section
variable {H : Type} {enc : TypeId × Value → H} {w : World} {base : Nat} {sp : Nat → Bool} {held : Bool}
theorem open_tm {fuel : Nat} {cs : Array Value} {y : DataW H × List MemPlace} (h : DataW.trod enc Tryz.prog w base sp held fuel 29 (Value.agg cs).cells.toList = some y) :
    ∃ h p l c t, cs = #[.int .u8 h.k, .int .u8 h.op, .int .i64 h.pl, .int .i64 h.n, .string h.name, .string h.arg, .string h.exn, .slice p l c] ∧ TmIs w h p l c t := by
  obtain ⟨hd, p, l, c, t, hc, hT⟩ := (open_all fuel).1 _ _ h
  refine ⟨hd, p, l, c, t, ?_, hT⟩
  have h1 : cs.toList = tcells hd p l c := hc
  exact Array.toList_inj.1 h1
theorem open_tms {fuel : Nat} {a : Option Addr} {len cap : Nat} {y : DataW H × List MemPlace} (h : DataW.trod enc Tryz.prog w base sp held fuel 27 (Value.slice a len cap).cells.toList = some y) : ∃ ts, IsTms w a len cap ts := by
  obtain ⟨p, l, c, ts, hc, h1, h2, h3, h4⟩ := (open_all fuel).2 _ _ h
  have h5 : [Value.slice a len cap] = [.slice p l c] := hc
  injection h5 with h5
  injection h5 with e1 e2 e3
  subst e1 e2 e3
  exact ⟨ts, h1, h2, h3, h4⟩
end
end Term
end Go.Proofs.YtadpjkehflokcaaGreatDoor
