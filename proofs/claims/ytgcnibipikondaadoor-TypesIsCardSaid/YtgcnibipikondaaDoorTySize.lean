/- The walk of the program's Size: the closure counts in a variable of its own. -/
import Derived.Test.YtgcnibipikondaaDoorTyProg
import Derived.IntWalk
namespace Go.Proofs.YtgcnibipikondaaDoor
open Go.RowKit
set_option linter.unusedVariables false
namespace Types

/-- All blocks stay but N. -/
structure But (N : Nat) (w w' : World) : Prop where
  os : w'.os = w.os
  tape : w'.tape = w.tape
  output : w'.output = w.output
  size : w.heap.size ≤ w'.heap.size
  block : ∀ b, b < w.heap.size → b ≠ N → w'.heap[b]? = w.heap[b]?
theorem But.refl (N : Nat) (w : World) : But N w w := ⟨rfl, rfl, rfl, Nat.le_refl _, fun _ _ _ => rfl⟩
theorem But.trans {N : Nat} {a b c : World} (h : But N a b) (k : But N b c) : But N a c :=
  ⟨k.os.trans h.os, k.tape.trans h.tape, k.output.trans h.output, Nat.le_trans h.size k.size, fun i hi hn => (k.block i (Nat.lt_of_lt_of_le hi h.size) hn).trans (h.block i hi hn)⟩
theorem But.of_below {N : Nat} {w w' : World} (hb : Below w.heap.size w w') : But N w w' := ⟨hb.os, hb.tape, hb.output, hb.size, fun i hi _ => hb.block i hi⟩
theorem But.alloc {N : Nat} {a w : World} (h : But N a w) (o : Obj) : But N a (w.alloc o) := h.trans (But.of_below (box_new o))
theorem But.set {N : Nat} {a w : World} (h : But N a w) (j : Nat) (u : Value) : But N a (w.setCell ⟨N, j, none⟩ u) :=
  h.trans ⟨rfl, rfl, rfl, by simp [World.setCell], fun i hi hn => Below.heap_setCell _ _ _ _ (fun e => hn e)⟩
theorem But.drew {N : Nat} {a w : World} (h : But N a w) : But N a w.drew := ⟨h.os, h.tape, h.output, h.size, h.block⟩
theorem But.below {N B : Nat} {W w' : World} (hs : But N W w') (hB : B ≤ N) (hW : B ≤ W.heap.size) : Below B W w' :=
  ⟨hs.os, hs.tape, hs.output, hs.size, fun i hi => hs.block i (by omega) (by omega)⟩
theorem But.cell {N : Nat} {w w' : World} (h : But N w w') {p : Addr} (hp : p.block < w.heap.size) (ho : p.block ≠ N) : w'.cell? p = w.cell? p := World.cell?_of_block (h.block p.block hp ho)
theorem But.box {N : Nat} {wr W : World} {cs : Array Value} {ty : TypeId} (hN : N < wr.heap.size) (hs : But N (wr.alloc (.cells cs ty)) W) (j : Nat) {v : Value} (hv : cs[j]? = some v) : W.cell? ⟨wr.heap.size, j, none⟩ = some v := by
  rw [hs.cell (p := ⟨wr.heap.size, j, none⟩) (by simp) (by show wr.heap.size ≠ N; omega), World.cell?_alloc_mark, hv]
theorem wts_drop (ts : List Ty) (j : Nat) (hj : j < ts.length) : wts (ts.drop j) = wts (tget ts j).ks + 1 + wts (ts.drop (j + 1)) := by
  rw [drop_tget ts j hj, wts_cons, wt_ks]

/-- The count's block. -/
def Cnt (N : Nat) (n : Nat) (W : World) : Prop := W.heap[N]? = some (.cells #[.int .i64 n] 3 (0, 0))
theorem Cnt.keep {N n : Nat} {W W' : World} (h : Cnt N n W) (hb : Below W.heap.size W W') : Cnt N n W' := (hb.block N (lt_of_block h)).trans h
def SizeEnd (N n : Nat) (w : World) (e : Ending) (w' : World) : Prop := e = .returned (.bool true) ∧ Cnt N n w' ∧ But N w w'

set_option maxHeartbeats 1600000 in
theorem size1_walk (N n : Nat) (W : World) (h : Hd) (p : Option Addr) (l c : Nat) (hC : Cnt N n W) (hn : n < 1000000) :
    Calls Tryd.prog 33 #[.agg #[.int .u8 h.k, .int .i64 h.v, .slice p l c], .pointer (some ⟨N, 0, none⟩)] W (SizeEnd N (n + 1) W) := by
  obtain ⟨k, v⟩ := h
  have cN : W.cell? ⟨N, 0, none⟩ = some (.int .i64 n) := by simp [World.cell?, show W.heap[N]? = _ from hC]
  have fN : W.frozen? ⟨N, 0, none⟩ = false := by simp [World.frozen?, show W.heap[N]? = _ from hC]
  have hNl : N < W.heap.size := lt_of_block hC
  have hend : ∀ O : Obj, SizeEnd N (n + 1) W (.returned (.bool true)) ((W.setCell ⟨N, 0, none⟩ (.int .i64 ((n : Int) + 1))).alloc O) := fun O => by
    refine ⟨rfl, ?_, ((But.refl N W).set 0 _).alloc O⟩
    have h1 : (W.setCell ⟨N, 0, none⟩ (.int .i64 ((n : Int) + 1))).heap[N]? = some (.cells #[.int .i64 ((n + 1 : Nat) : Int)] 3 (0, 0)) := by simp [World.setCell, Array.getElem?_modify, show W.heap[N]? = _ from hC]
    exact (Below.heap_alloc _ O N (by simp [World.setCell]; exact hNl)).trans h1
  have HE := Lib.hid hend
  clear hend hC
  go_enter Tryd.func33, Tryd.ntmps33
  go_wp2
  go_ret
  exact HE.out _

set_option maxRecDepth 10000 in
set_option maxHeartbeats 6400000 in
theorem allSize_walk (w0 : World) (N : Nat) (hN : w0.heap.size ≤ N) :
    ∀ (m : Nat) (ts : List Ty) (p : Option Addr) (l d n : Nat) (w : World), wts ts ≤ m → ts.length = l → l ≤ maxLen → Kids w0 p ts → Below w0.heap.size w0 w → Cnt N n w → n + wts ts ≤ 1000000 →
    Calls Tryd.prog 29 #[.func (.func 33) #[] #[.pointer (some ⟨N, 0, none⟩)], .slice p l d] w (SizeEnd N (n + wts ts) w) := by
  intro m
  induction m using Nat.strongRecOn with
  | _ m ih =>
    intro ts p l d n w hm hl hlm hk hb0 hC hn
    unfold maxLen at hlm
    have HM := Lib.hid hm; have HL := Lib.hid hl; have HK := Lib.hid hk; have HB0 := Lib.hid hb0; have HC := Lib.hid hC; have HN := Lib.hid hn; have IH := Lib.hid ih
    clear hm hl hk hb0 hC hn ih
    go_enter Tryd.func29, Tryd.ntmps29
    go_wp2_with (fail)
    go_loopw [6, 9] (fun _ i wr => ∃ (j u : Nat), j ≤ l ∧ i = .int .i64 j ∧ Hid (u + wts (ts.drop j) = n + wts ts) ∧ Hid (Cnt N u wr) ∧ Hid (But N w wr)) (fun _ i _ => l - (intOf i).toNat)
    case atStart => exact ⟨0, n, Nat.zero_le _, rfl, Lib.hid (by rw [List.drop_zero]), HC, Lib.hid (But.refl _ _)⟩
    case round =>
      obtain ⟨j, u, hj, rfl, HF, HU, HS⟩ := hrel
      have hB0 : Below w0.heap.size w0 wr := HB0.out.trans (HS.out.below hN HB0.out.size)
      have HB := Lib.hid hB0
      clear hB0
      by_cases hlt : j < l
      · have hjk : j < ts.length := by rw [HL.out]; exact hlt
        obtain ⟨b, o, q, c', rfl, hkid, e0, e1, e2⟩ := HK.out.get j hjk
        have hR := fun (a : Addr) (v : Value) (hv : w0.cell? a = some v) => (HB.out.cell (World.block_lt_of_cell? w0 _ hv)).trans hv
        have c0 := hR _ _ e0
        have c1 := hR _ _ e1
        have c2 := hR _ _ e2
        have hwd := wts_drop ts j hjk
        have hwm : wts (tget ts j).ks < wts ts := by have h1 := wts_get hjk; have h2 := wt_ks (tget ts j); omega
        have hNw := lt_of_block HU.out
        have HJK := Lib.hid hjk; have HKID := Lib.hid hkid; have HWM := Lib.hid hwm; have HWD := Lib.hid hwd; have HNW := Lib.hid hNw
        clear hjk hkid hwm hwd hNw hR e0 e1 e2
        go_wp2_with (fail)
        refine (size1_walk N u _ _ _ _ _ (HU.out.keep (box_new _)) (by have := HF.out; have := HN.out; have := HWD.out; omega)).mono ?_
        rintro e w1 ⟨rfl, hC1, hs1⟩
        have b2 := hs1.box HNW.out 2 rfl
        have HC1 := Lib.hid hC1
        have HS1 := Lib.hid ((HS.out.alloc _).trans hs1)
        clear hC1 hs1 c0 c1 c2
        go_wp2_with (fail)
        refine (IH.out (wts (tget ts j).ks) (by have := HWM.out; have := HM.out; omega) (tget ts j).ks q _ c' (u + 1) _ (Nat.le_refl _) rfl (Nat.le_trans HKID.out.cap.1 HKID.out.cap.2) HKID.out.kids (HB0.out.trans (HS1.out.below hN HB0.out.size)) HC1.out (by have := HF.out; have := HN.out; have := HWD.out; omega)).mono ?_
        rintro e w2 ⟨rfl, hC2, hs2⟩
        have HC2 := Lib.hid hC2
        have HS2 := Lib.hid (HS1.out.trans hs2)
        clear hC2 hs2 b2
        go_wp2
        go_roundw
        case rel => exact ⟨j + 1, _, by omega, by go_num, Lib.hid (by have := HF.out; have := HWD.out; omega), HC2, HS2⟩
        case measure => simp [intOf]; omega
      · obtain rfl : j = l := by omega
        have hr := HF.out
        rw [List.drop_eq_nil_of_le (by rw [HL.out]; exact Nat.le_refl _), wts_nil, Nat.add_zero] at hr
        have hc := HU.out
        rw [hr] at hc
        have HR := Lib.hid hc
        clear hr hc
        go_wp2
        go_ret
        exact ⟨rfl, HR.out, HS.out⟩

set_option maxHeartbeats 1600000 in
theorem size_walk (ts : List Ty) (p : Option Addr) (l d : Nat) (w : World) (hl : ts.length = l) (hlm : l ≤ maxLen) (hk : Kids w p ts) (hw : wts ts ≤ 1000000) :
    Calls Tryd.prog 16 #[.slice p l d] w fun e w' => e = .returned (.int .i64 (wts ts : Nat)) ∧ Below w.heap.size w w' := by
  have h1 := allSize_walk w w.heap.size (Nat.le_refl _) (wts ts) ts p l d 0 (w.alloc (.cells #[.int .i64 0] 3)) (Nat.le_refl _) hl hlm hk (box_new _) (heap_alloc_new _ _) (by omega)
  have H1 := Lib.hid h1; have HW := Lib.hid hw
  clear h1 hk hl hlm hw
  go_enter Tryd.func16, Tryd.ntmps16
  go_wp2_with (fail)
  refine H1.out.mono ?_
  rintro e w1 ⟨rfl, hC1, hs1⟩
  rw [Nat.zero_add] at hC1
  have c1 : w1.cell? ⟨w.heap.size, 0, none⟩ = some (.int .i64 (wts ts : Nat)) := by simp [World.cell?, show w1.heap[w.heap.size]? = _ from hC1]
  have HB1 := Lib.hid ((box_new (w := w) (.cells #[.int .i64 0] 3)).trans (hs1.below (Nat.le_refl _) (by simp)))
  have HW2 := HW.out
  generalize hX : wts ts = X at *
  have HX := Lib.hid hX
  clear hs1 hC1 hX
  go_wp2
  go_ret
  exact ⟨by rw [HX.out]; rfl, HB1.out⟩
end Types
end Go.Proofs.YtgcnibipikondaaDoor
