import Derived.Test.YtkfkpjngiffamaaGreatDoorGC03
import Derived.Lib.SlicesCompact
import Derived.Lib.SliceRun
import Derived.Deep.LoopGhost
import Derived.Shelf.SlicesE.Kit
import Derived.Shelf.SlicesE.Equal
import Derived.Shelf.SlSortFuncK.RowK2
import Derived.Shelf.RegionOpenPlain
import Derived.Laws.EntriesVeiled
import Derived.Lib.AppendZerosOnto
import Derived.Maps.AppendAt
import Derived.Deep.Upon
import Derived.Test.YtkfkpjngiffamaaGreatDoorEfShelf
import Derived.Lib.AppendIntMem
import Derived.Lib.LaidTab
import Derived.Lib.SmallJoins
import Derived.Laws.BytesArg
import Derived.LoopTactic
namespace Go.Proofs.YtkfkpjngiffamaaGreatDoor
open Go.RowKit Go.Sort Go.Shelf Go.Lib
set_option linter.unusedVariables false
set_option linter.unusedSimpArgs false
namespace Effect

theorem eqAt : EqlAt Tryz.prog 67 (fun a => .agg (enc a).toArray) (fun a b => decide (a = b)) := by
 refine ⟨fun a b w => ?_, GuardAt.agg _ (by kernel_rfl)⟩
 have u5 := Tryz.underlying5
 have u3 := Tryz.underlying3
 have u9 := Tryz.underlying9
 have hS : Tryz.prog.underlying 67 = some (.struct (Tryz.prog.fieldsOf 67)) := by kernel_rfl
 have hp : Tryz.prog.stoodInHeld 67 = false := by kernel_rfl
 obtain ⟨k, r, x⟩ := a
 obtain ⟨k', r', x'⟩ := b
 simp only [enc]
 rw [run_eql_struct, show (10000 : Nat) = 9999 + 1 from rfl, run_equalIn_agg w 9999 67 _ _ hS hp]
 simp only [Program.fieldsOf, Tryz.underlying67]
 go_simp
 have hx : x.toList = x'.toList ↔ x = x' := ⟨toList_inj, fun h => by rw [h]⟩
 by_cases h1 : k = k' <;> by_cases h2 : r = r' <;> by_cases h3 : x = x' <;> simp [h1, h2, h3, hx]
theorem neAt : NeqAt Tryz.prog 67 (fun a => .agg (enc a).toArray) (fun a b => decide (a = b)) := by
 refine ⟨fun a b w => ?_, GuardAt.agg _ (by kernel_rfl)⟩
 have h := eqAt.1 a b w
 show (binOp .neq 67 (.agg (enc a).toArray) (.agg (enc b).toArray)).run Tryz.prog w = _
 change (binOp .eql 67 (.agg (enc a).toArray) (.agg (enc b).toArray)).run Tryz.prog w = _ at h
 rw [run_eql_struct] at h
 rw [run_neq_struct]
 generalize (Op.equalIn 10000 67 (.agg (enc a).toArray) (.agg (enc b).toArray)).run Tryz.prog w = R at *
 cases R with
 | ok b w1 => simp [Result.andThen] at h ⊢; obtain ⟨h1, h2⟩ := h; subst h1 h2; simp
 | halt a b => simp [Result.andThen] at h
theorem three {w : World} {g : Nat} {d : Array At} (h : HoldsK enc 3 w g 0 d) {i : Nat} (hi : i < d.size) : (w.cell? ⟨g, i * 3, none⟩ = some (.int .u8 d[i]!.k) ∧ w.cell? ⟨g, i * 3 + 1, none⟩ = some (.int .i64 d[i]!.r) ∧ w.cell? ⟨g, i * 3 + 2, none⟩ = some (.string d[i]!.x)) ∧ (w.frozen? ⟨g, i * 3, none⟩ = false ∧ w.frozen? ⟨g, i * 3 + 1, none⟩ = false ∧ w.frozen? ⟨g, i * 3 + 2, none⟩ = false) := by
 have h0 := h.cell (c := 0) hi (by omega)
 have h1 := h.cell (c := 1) hi (by omega)
 have h2 := h.cell (c := 2) hi (by omega)
 simp only [Nat.zero_add, Nat.add_zero] at h0 h1 h2
 exact ⟨⟨h0.1, h1.1, h2.1⟩, h0.2, h1.2, h2.2⟩
def zA : At := ⟨0, 0, ⟨#[]⟩⟩
theorem zcells (n : Nat) : (Builtin.zeroCells (Value.agg #[.int .u8 0, .int .i64 0, .string ⟨#[]⟩]).cells n).toList = flat (List.replicate n zA) := by
 apply List.ext_getElem?
 intro t
 by_cases ht : t < n * 3
 ·have hz : (List.replicate n zA).length = n := by simp
  have h := flat_get (List.replicate n zA) (t / 3) (by rw [hz]; omega) (t % 3) (by omega)
  rw [show t / 3 * 3 + t % 3 = t by omega] at h
  rw [h]
  have e : aget (List.replicate n zA) (t / 3) = zA := by
   unfold aget
   rw [List.getD_eq_getElem?_getD, List.getElem?_replicate, if_pos (by omega)]; rfl
  rw [e]
  simp only [Builtin.zeroCells, Value.cells]
  rcases (by omega : t % 3 = 0 ∨ t % 3 = 1 ∨ t % 3 = 2) with q | q | q <;> simp [q, enc, zA, ht]
 ·rw [List.getElem?_eq_none (by simp [Builtin.zeroCells, Value.cells]; omega), List.getElem?_eq_none (by rw [flat_len]; simp; omega)]
theorem clear_rows (w : World) (ty : TypeId) (g o n c : Nat) (hn : 0 < n) (hc : ∀ j, j < n * 3 → (w.cell? ⟨g, o + j, none⟩).isSome = true) (hf : ∀ j, j < n * 3 → w.frozen? ⟨g, o + j, none⟩ = false) :
  (Builtin.clear_ #[25] ty #[.slice (some ⟨g, o, none⟩) n c]).run Tryz.prog w = .ok (.tuple #[]) (w.setCells g o (flat (List.replicate n zA))) := by
 have hz := zcells n
 have hl : (flat (List.replicate n zA)).length = n * 3 := by rw [flat_len]; simp
 have h1 : ∀ v ∈ flat (List.replicate n zA), v.oneCell' = true := fun v hv => by
  unfold flat at hv
  obtain ⟨a, _, ha⟩ := List.mem_flatMap.1 hv
  simp [enc] at ha
  rcases ha with rfl | rfl | rfl <;> rfl
 have hst := run_storeCells_cells (P := Tryz.prog) g o (flat (List.replicate n zA)) 0 w (by rw [hl]; simpa using hc) (by rw [hl]; simpa using hf) h1
 simp only [Nat.add_zero] at hst
 have hv := fun w => Tryz.zeroValue67 w
 obtain ⟨m, rfl⟩ : ∃ m, n = m + 1 := ⟨n - 1, by omega⟩
 simp [Builtin.clear_, run_underlying Tryz.underlying25, hv, hz, hst]
theorem put_set (w : World) (g : Nat) (d : Array At) (i : Nat) (x : At) (hi : i < d.size) : (((putRowK enc 3 w g 0 d).setCell ⟨g, i * 3, none⟩ (.int .u8 x.k)).setCell ⟨g, i * 3 + 1, none⟩ (.int .i64 x.r)).setCell ⟨g, i * 3 + 2, none⟩ (.string x.x) = putRowK enc 3 w g 0 (d.setIfInBounds i x) := by
 have h := setCells_putRow w g 0 (enc x) (i * 3) (flatK enc 3 d) (by rw [size_flatK]; show i * 3 + 3 ≤ _; omega)
 rw [Nat.zero_add] at h
 have e : setMany (flatK enc 3 d) (i * 3) (enc x) = flatK enc 3 (d.setIfInBounds i x) := by
  refine ext_get! (by simp) fun t ht => ?_
  have ht' : t < d.size * 3 := by simpa using ht
  rw [get_setMany _ _ _ t (by simpa using ht'), get_flatK _ _ _ t ht', get_flatK _ _ _ t (by simpa using ht')]
  show (if i * 3 ≤ t ∧ t < i * 3 + 3 then _ else _) = _
  by_cases a : t / 3 = i
  ·rw [if_pos ((blk_iff 3 i t (by omega)).2 a), a, getElem!_set_same d i x hi, show t - i * 3 = t % 3 by omega]
  ·rw [if_neg (fun h => a ((blk_iff 3 i t (by omega)).1 h)), getElem!_set_other d i (t / 3) x a]
 rw [e] at h
 exact h
theorem comp_end {w : World} {B g c n q : Nat} {cur : Array Value} {d dk : Array At} {K : Nat} (hds : d.size = n) (hb : B ≤ g) (hg : w.heap[g]? = some (.cells cur 67 (0, 0))) (h1 : n ≤ c) (h2 : c ≤ maxLen) (h3 : cur.size = c * 3) (hI : CompInv d n K dk) :
  ((putRowK enc 3 (Sort.ahead w q) g 0 dk).setCells g (K * 3) (flat (List.replicate (n - K) zA))).ownsRow B 67 3 (.slice (some ⟨g, 0, none⟩) K c) K (flat (compactUpTo d n)) ∧ w.grownBy ((putRowK enc 3 (Sort.ahead w q) g 0 dk).setCells g (K * 3) (flat (List.replicate (n - K) zA))) (some g) := by
 have hK := hI.lt
 have hs := hI.size
 have h := setCells_putRow (Sort.ahead w q) g 0 (flat (List.replicate (n - K) zA)) (K * 3) (flatK enc 3 dk) (by rw [size_flatK, flat_len, List.length_replicate]; omega)
 rw [Nat.zero_add] at h
 have h' : (putRowK enc 3 (Sort.ahead w q) g 0 dk).setCells g (K * 3) (flat (List.replicate (n - K) zA)) = grow (putRow id (Sort.ahead w q) g 0 (setMany (flatK enc 3 dk) (K * 3) (flat (List.replicate (n - K) zA)))) #[] := by rw [grow_empty]; exact h
 rw [h']
 refine ⟨⟨by rw [flat_len, hI.len], .inr ⟨g, c, _, rfl, hb, heap_sortedV _ hg, by omega, h2, by simp [putCells, h3], ?_⟩⟩, grownBy_sortedV _⟩
 apply List.ext_getElem?
 intro t
 by_cases ht : t < K * 3
 ·rw [List.getElem?_take_of_lt ht, Array.getElem?_toList]
  have hf := flat_get (compactUpTo d n) (t / 3) (by rw [hI.len]; omega) (t % 3) (by omega)
  rw [show t / 3 * 3 + t % 3 = t by omega] at hf
  rw [hf]
  have hlo := hI.low (t / 3) (by omega)
  have e1 : aget (compactUpTo d n) (t / 3) = dk[t / 3]! := by
   have := aget_at (l := compactUpTo d n) (i := t / 3) (by rw [hI.len]; omega)
   rw [hlo] at this
   exact (Option.some.inj this).symm
  rw [e1]
  have e2 : (setMany (flatK enc 3 dk) (K * 3) (flat (List.replicate (n - K) zA)))[t]! = (enc dk[t / 3]!)[t % 3]! := by
   rw [get_setMany _ _ _ t (by rw [size_flatK]; omega), if_neg (by omega), get_flatK _ _ _ _ (by omega)]
  have hlen3 : t % 3 < (enc dk[t / 3]!).length := Nat.mod_lt t (by decide : 3 > 0)
  rw [List.getElem?_eq_getElem hlen3, ← getElem!_pos (enc dk[t / 3]!) (t % 3) hlen3, ← e2]
  simp [putCells, show t < cur.size by omega, show t < dk.size * 3 by omega]
 ·rw [List.getElem?_take_eq_none (by omega), List.getElem?_eq_none (by rw [flat_len, hI.len]; omega)]
end Effect
end Go.Proofs.YtkfkpjngiffamaaGreatDoor
namespace Go.Proofs.YtkfkpjngiffamaaGreatDoor
open Go.RowKit Go.Sort Go.Shelf Go.Lib
set_option linter.unusedVariables false
set_option linter.unusedSimpArgs false
namespace Effect

theorem eqIn (a b : At) (w : World) : (Op.equalIn 10000 67 (.agg (enc a).toArray) (.agg (enc b).toArray)).run Tryz.prog w = .ok (decide (a = b)) w := by
 have h := eqAt.1 a b w
 change (binOp .eql 67 (.agg (enc a).toArray) (.agg (enc b).toArray)).run Tryz.prog w = _ at h
 rw [run_eql_struct] at h
 generalize (Op.equalIn 10000 67 (.agg (enc a).toArray) (.agg (enc b).toArray)).run Tryz.prog w = R at *
 cases R with
 | ok b w1 => simp [Result.andThen] at h ⊢; exact ⟨h.1, h.2⟩
 | halt a b => simp [Result.andThen] at h
theorem holds_fact {w : World} {g : Nat} {d : Array At} (h : HoldsK enc 3 w g 0 d) {i : Nat} (hi : i < d.size) {x : At} (hx : d[i]! = x) : w.cell? ⟨g, i * 3, none⟩ = some (.int .u8 x.k) ∧ w.cell? ⟨g, i * 3 + 1, none⟩ = some (.int .i64 x.r) ∧ w.cell? ⟨g, i * 3 + 2, none⟩ = some (.string x.x) := by
 have := (three h hi).1
 rw [hx] at this
 exact this
theorem holds_at {w : World} {g : Nat} {d : Array At} (h : HoldsK enc 3 w g 0 d) {i o : Nat} (hi : i < d.size) (ho : o = i * 3) {x : At} (hx : d[i]! = x) : (w.cell? ⟨g, o, none⟩ = some (.int .u8 x.k) ∧ w.cell? ⟨g, o + 1, none⟩ = some (.int .i64 x.r) ∧ w.cell? ⟨g, o + 2, none⟩ = some (.string x.x)) ∧ (w.frozen? ⟨g, o, none⟩ = false ∧ w.frozen? ⟨g, o + 1, none⟩ = false ∧ w.frozen? ⟨g, o + 2, none⟩ = false) := by
 subst ho hx
 exact three h hi
theorem store3 {w wr : World} {g q i : Nat} {dk : Array At} (hi : i < dk.size) (hwr : wr = putRowK enc 3 (Sort.ahead w q) g 0 dk) (u : At) : (((wr.setCell ⟨g, i * 3, none⟩ (.int .u8 u.k)).setCell ⟨g, i * 3 + 1, none⟩ (.int .i64 u.r)).setCell ⟨g, i * 3 + 2, none⟩ (.string u.x)).drew = putRowK enc 3 (Sort.ahead w (q + 1)) g 0 (dk.setIfInBounds i u) := by
 subst hwr
 rw [put_set _ _ _ _ _ hi]
 exact drewN_worldK enc 3 rfl 1
set_option maxRecDepth 100000 in
set_option maxHeartbeats 12800000 in
theorem compact_mid (g n c : Nat) (d : Array At) (w : World) (hds : d.size = n) (hH : HoldsK enc 3 w g 0 d) (hg : g < w.heap.size) (hn2 : 2 ≤ n) (hc : n ≤ c) (hn : n ≤ 1000000) :
  Calls Tryz.prog 124 #[.slice (some ⟨g, 0, none⟩) n c] w fun e w' => (e = .returned (.slice (some ⟨g, 0, none⟩) n c) ∧ (∀ j, j < n → keeps d j = true) ∧ ∃ q, w' = w.drewN q) ∨
   ∃ K q dk, e = .returned (.slice (some ⟨g, 0, none⟩) K c) ∧ CompInv d n K dk ∧ w' = (putRowK enc 3 (Sort.ahead w q) g 0 dk).setCells g (K * 3) (flat (List.replicate (n - K) zA)) := by
 have mixed : Tryz.prog.follows .mixedOrders = true := by kernel_rfl
 have HEQ := Lib.hid eqIn
 have HGD := Lib.hid (show ∀ (op : BinOp) (u v : Operand) (a b : At) (w : World), (eqGuard op 67 u v (.agg #[.int .u8 a.k, .int .i64 a.r, .string a.x]) (.agg #[.int .u8 b.k, .int .i64 b.r, .string b.x])).run Tryz.prog w = .ok () w from fun op u v a b w => eqAt.2 op u v a b w)
 have HH := Lib.hid hH; have HDS := Lib.hid hds
 clear hH hds
 go_enter Tryz.func124, Tryz.ntmps124
 go_wp2_with (fail)
 go_loopg [3] n (fun gh s3 wr => ∃ k k1 q : Nat, Hid (k1 = k + 1) ∧ k1 ≤ n ∧ n - k1 ≤ gh ∧ s3 = .int .i64 (k1 : Int) ∧ wr = w.drewN q ∧ Hid (∀ j, j < k1 → keeps d j = true))
 case atStart => exact ⟨0, 1, 0, Lib.hid rfl, by omega, by omega, rfl, rfl, Lib.hid (keeps_lt_one d)⟩
 case round =>
  obtain ⟨k, k1, q, HK, hk, hgh, rfl, rfl, HA⟩ := hrel
  by_cases hlt : k1 < n
  ·obtain ⟨x, hx⟩ : ∃ x, d[k1]! = x := ⟨_, rfl⟩
   obtain ⟨y, hy⟩ : ∃ y, d[k]! = y := ⟨_, rfl⟩
   have HXY := Lib.hid (And.intro hx hy)
   obtain ⟨a0, a1, a2⟩ := holds_fact HH.out (i := k1) (by rw [HDS.out]; exact hlt) hx
   obtain ⟨b0, b1, b2⟩ := holds_fact HH.out (i := k) (by have := HK.out; rw [HDS.out]; omega) hy
   have hkk : (k : Int) < n := by have := HK.out; omega
   have hi1 : IntKind.i64.wrap ((k1 : Int) - 1) = (k : Int) := by have := HK.out; rw [IntWalk.i64_in _ (by omega)]; omega
   clear hx hy
   have hgd := HGD.out
   have hq := HEQ.out x y
   simp only [enc] at hq
   by_cases hdup : x = y
   ·have hd : decide (x = y) = true := decide_eq_true hdup
    rw [hd] at hq
    have HDUP := Lib.hid hdup
    clear hd hdup
    go_wp2_with (fail)
    go_region_o
    clear a0 a1 a2 b0 b1 b2 hgd hq hi1 hkk
    go_wp2_with (fail)
    go_loopg [3, 5] n (fun gh s3 s5 wr => ∃ (kk k2 kp q2 : Nat) (dk : Array At), Hid (k2 = kp + 1) ∧ s3 = .int .i64 (kk : Int) ∧ s5 = .int .i64 (k2 : Int) ∧ k1 + k2 ≤ n ∧ n - (k1 + k2) ≤ gh ∧ kk < n ∧ Hid (wr = putRowK enc 3 (Sort.ahead w q2) g 0 dk) ∧ Hid (CompInv d (k1 + k2) kk dk))
    case atStart => exact ⟨k1, 1, 0, q + 1, d, Lib.hid rfl, rfl, rfl, by omega, by omega, hlt, Lib.hid (putRowK_self enc 3 (Sort.ahead w (q + 1)) g 0 d (holdsK_ahead enc 3 w (q + 1) g 0 d HH.out)).symm, Lib.hid (CompInv.start HA.out (keeps_neg (by have := HK.out; omega) (by rw [HXY.out.1, show k1 - 1 = k by have := HK.out; omega, HXY.out.2]; exact HDUP.out)))⟩
    case round =>
     obtain ⟨kk, k2, kp, q2, dk, HK2, rfl, rfl, hle, hg2, hkk, HW2, HI2⟩ := hrel
     have hHk : HoldsK enc 3 wr g 0 dk := by rw [HW2.out]; exact holdsK_putRowK enc 3 (Sort.ahead w q2) g 0 d dk (holdsK_ahead enc 3 w q2 g 0 d HH.out) HI2.out.size
     have hsz : dk.size = n := by rw [HI2.out.size]; exact HDS.out
     by_cases hlt2 : k1 + k2 < n
     ·obtain ⟨u, hu⟩ : ∃ u, d[k1 + k2]! = u := ⟨_, rfl⟩
      obtain ⟨v, hv⟩ : ∃ v, d[k1 + kp]! = v := ⟨_, rfl⟩
      have hklt := HI2.out.lt
      obtain ⟨⟨a0, a1, a2⟩, -⟩ := holds_at hHk (i := k1 + k2) (o := k1 * 3 + k2 * 3) (by omega) (by omega) ((HI2.out.high _ (by omega)).trans hu)
      obtain ⟨⟨b0, b1, b2⟩, -⟩ := holds_at hHk (i := k1 + kp) (o := k1 * 3 + kp * 3) (by have := HK2.out; omega) (by omega) ((HI2.out.high _ (by have := HK2.out; omega)).trans hv)
      obtain ⟨⟨e0, e1, e2⟩, f0, f1, f2⟩ := holds_at hHk (i := kk) (o := kk * 3) (by omega) rfl rfl
      have HUV := Lib.hid (And.intro hu hv); have HSZ := Lib.hid hsz
      have hkn : kp + k1 < n := by have := HK2.out; omega
      have hi1 : IntKind.i64.wrap ((k2 : Int) - 1) = (kp : Int) := by have := HK2.out; rw [IntWalk.i64_in _ (by omega)]; omega
      clear hu hv hHk hsz hklt
      have hgd := HGD.out
      have hq := HEQ.out u v
      simp only [enc] at hq
      by_cases huv : u = v
      ·have hd : decide (u = v) = true := decide_eq_true huv
       rw [hd] at hq
       have HDUP2 := Lib.hid huv
       clear hd huv
       go_wp2_with (fail)
       go_region_o
       go_wp2_with (fail)
       go_roundg (n - (k1 + (k2 + 1)))
       case measure => omega
       case rel => exact ⟨kk, k2 + 1, k2, q2 + 1, dk, Lib.hid rfl, rfl, by go_num, by omega, by omega, hkk, Lib.hid (drewN_worldK enc 3 HW2.out 1), Lib.hid (HI2.out.skip (keeps_neg (by have := HK2.out; omega) (by have := HK2.out; rw [HUV.out.1, show k1 + k2 - 1 = k1 + kp by omega, HUV.out.2]; exact HDUP2.out)))⟩
      ·have hd : decide (u = v) = false := decide_eq_false huv
       rw [hd] at hq
       have HDUP2 := Lib.hid huv
       clear hd huv
       go_wp2_with (fail)
       go_region_o
       go_wp2_with (fail)
       go_roundg (n - (k1 + (k2 + 1)))
       case measure => omega
       case rel =>
        have hkeep := HI2.out.keep (by rw [HDS.out]; exact hlt2) (keeps_pos (by have := HK2.out; rw [HUV.out.1, show k1 + k2 - 1 = k1 + kp by omega, HUV.out.2]; exact HDUP2.out))
        rw [HUV.out.1] at hkeep
        have hlt3 := hkeep.lt
        exact ⟨kk + 1, k2 + 1, k2, q2 + 1, dk.setIfInBounds kk u, Lib.hid rfl, by go_num, by go_num, by omega, by omega, by omega, Lib.hid (store3 (by have := HSZ.out; omega) HW2.out u), Lib.hid hkeep⟩
     ·have hend : k1 + k2 = n := by omega
      have hcl : ∀ ty, (Builtin.clear_ #[25] ty #[.slice (some ⟨g, kk * 3, none⟩) (n - kk) (c - kk)]).run Tryz.prog wr = .ok (.tuple #[]) (wr.setCells g (kk * 3) (flat (List.replicate (n - kk) zA))) := fun ty => clear_rows wr ty g (kk * 3) (n - kk) (c - kk) (by omega) (fun j hj => by
        have h := hHk.cell (i := kk + j / 3) (c := j % 3) (by omega) (Nat.mod_lt j (by omega))
        rw [show 0 + (kk + j / 3) * 3 + j % 3 = kk * 3 + j by omega] at h
        rw [h.1]; rfl) (fun j hj => by
        have h := hHk.cell (i := kk + j / 3) (c := j % 3) (by omega) (Nat.mod_lt j (by omega))
        rw [show 0 + (kk + j / 3) * 3 + j % 3 = kk * 3 + j by omega] at h
        exact h.2)
      have HEND := Lib.hid hend
      clear hHk hsz hend
      go_wp2_with (fail)
      go_ret
      refine .inr ⟨kk, q2, dk, rfl, ?_, by rw [← HW2.out]⟩
      rw [← HEND.out]; exact HI2.out
   ·have hd : decide (x = y) = false := decide_eq_false hdup
    rw [hd] at hq
    have HDUP := Lib.hid hdup
    clear hd hdup
    go_wp2_with (fail)
    go_region_o
    go_wp2_with (fail)
    go_roundg (n - (k1 + 1))
    case measure => omega
    case rel =>
     refine ⟨k1, k1 + 1, q + 1, Lib.hid rfl, by omega, by omega, by go_num, rfl, Lib.hid fun j hj => ?_⟩
     by_cases e : j = k1
     ·subst e
      exact keeps_pos (by have := HK.out; rw [HXY.out.1, show j - 1 = k by omega, HXY.out.2]; exact HDUP.out)
     ·exact HA.out j (by omega)
  ·obtain rfl : n = k1 := by omega
   go_wp2_with (fail)
   go_ret
   exact .inl ⟨rfl, HA.out, q, rfl⟩
end Effect
end Go.Proofs.YtkfkpjngiffamaaGreatDoor
namespace Go.Proofs.YtkfkpjngiffamaaGreatDoor
open Go.RowKit Go.Sort Go.Shelf Go.Lib
set_option linter.unusedVariables false
set_option linter.unusedSimpArgs false
namespace Effect

def compL (l : List At) : List At := compactUpTo l.toArray l.length
theorem mem_upTo {d : Array At} : ∀ (m : Nat), (∀ x ∈ compactUpTo d m, ∃ j, j < m ∧ d[j]! = x) ∧ ∀ j, j < m → d[j]! ∈ compactUpTo d m
 | 0 => ⟨fun x hx => by simp [compactUpTo] at hx, fun j hj => by omega⟩
 | m + 1 => by
  obtain ⟨h1, h2⟩ := mem_upTo (d := d) m
  rw [compactUpTo_succ]
  refine ⟨fun x hx => ?_, fun j hj => ?_⟩
  ·rcases List.mem_append.1 hx with hx | hx
   ·obtain ⟨j, a, b⟩ := h1 x hx; exact ⟨j, by omega, b⟩
   ·split at hx
    ·rw [List.mem_singleton] at hx; exact ⟨m, by omega, hx.symm⟩
    ·cases hx
  ·rcases Nat.lt_or_ge j m with hj' | hj'
   ·exact List.mem_append_left _ (h2 j hj')
   ·obtain rfl : j = m := by omega
    by_cases hk : keeps d j = true
    ·rw [if_pos hk]; exact List.mem_append_right _ (List.mem_singleton.2 rfl)
    ·have hk' : ¬ (j = 0 ∨ d[j]! ≠ d[j - 1]!) := by simpa [keeps] using hk
     have h0 : j ≠ 0 := fun e => hk' (.inl e)
     have he : d[j]! = d[j - 1]! := Classical.not_not.1 fun e => hk' (.inr e)
     rw [he]
     exact List.mem_append_left _ (h2 (j - 1) (by omega))
theorem up_sorted {d : Array At} (hs : ∀ i j, i < j → j < d.size → lessA d[j]! d[i]! = false) : ∀ (m : Nat), m ≤ d.size → Up (compactUpTo d m) ∧ ∀ x ∈ compactUpTo d m, lessA d[m - 1]! x = false
 | 0, _ => ⟨by simp [compactUpTo, Up], fun x hx => by simp [compactUpTo] at hx⟩
 | m + 1, hm => by
  obtain ⟨h1, h2⟩ := up_sorted hs m (by omega)
  have hpos : ∀ x ∈ compactUpTo d m, 0 < m := fun x hx => by
   rcases Nat.eq_zero_or_pos m with q | q
   ·subst q; simp [compactUpTo] at hx
   ·exact q
  have hle : ∀ x ∈ compactUpTo d m, lessA d[m]! x = false := fun x hx =>
   swoA.ntrans _ _ _ (hs (m - 1) m (by have := hpos x hx; omega) (by omega)) (h2 x hx)
  rw [compactUpTo_succ]
  by_cases hk : keeps d m = true
  ·rw [if_pos hk]
   refine ⟨List.pairwise_append.2 ⟨h1, by simp, fun x hx y hy => ?_⟩, fun x hx => ?_⟩
   ·rw [List.mem_singleton] at hy
    subst hy
    have hk' : m = 0 ∨ d[m]! ≠ d[m - 1]! := by simpa [keeps] using hk
    have hm0 := hpos x hx
    cases h3 : lessA x d[m]! with
    | true => rfl
    | false =>
     exfalso
     have e : x = d[m]! := lessA_total h3 (hle x hx)
     have h4 := h2 x hx
     rw [e] at h4
     have h5 := hs (m - 1) m (by omega) (by omega)
     exact hk'.resolve_left (by omega) (lessA_total h5 h4)
   ·rcases List.mem_append.1 hx with hx | hx
    ·exact hle x hx
    ·rw [List.mem_singleton] at hx; subst hx; exact lessA_irrefl _
  ·rw [if_neg hk, List.append_nil]
   exact ⟨h1, hle⟩
theorem mem_compL (l : List At) (x : At) : x ∈ compL l ↔ x ∈ l := by
 obtain ⟨h1, h2⟩ := mem_upTo (d := l.toArray) l.length
 constructor
 ·intro hx
  obtain ⟨j, hj, e⟩ := h1 x hx
  rw [← e]
  simp [hj]
 ·intro hx
  obtain ⟨j, hj, e⟩ := List.mem_iff_getElem.1 hx
  have := h2 j hj
  have e2 : l.toArray[j]! = x := by simp [hj, e]
  rw [e2] at this
  exact this
theorem up_compL {l : List At} (h : l.Pairwise fun x y => lessA y x = false) : Up (compL l) :=
 (up_sorted (d := l.toArray) (fun i j hij hj => by
  have hj' : j < l.length := by simpa using hj
  have := List.pairwise_iff_getElem.1 h i j (by omega) hj' hij
  simpa [hj', show i < l.length by omega] using this) l.length (by simp)).1
theorem compL_of {l s : List At} (hs : s.Pairwise fun x y => lessA y x = false) (hp : ∀ b, b ∈ s ↔ b ∈ l ∧ atomB b = true) : compL s = ofA l :=
 of_uniq (up_compL hs) fun b => by rw [mem_compL]; exact hp b
theorem compL_short {l : List At} (h : l.length < 2) : compL l = l := by
 match l, h with
 | [], _ => rfl
 | [x], _ => simp [compL, compactUpTo, keeps]
theorem compL_all {l : List At} (h : ∀ j, j < l.length → keeps l.toArray j = true) : compL l = l := by
 unfold compL
 rw [compactUpTo_all _ _ h]
 have := range_map_get l.toArray
 rw [List.size_toArray] at this
 exact this
set_option maxHeartbeats 3200000 in
theorem compact_short (a : Option Addr) (n c : Nat) (w : World) (hn : n < 2) : Calls Tryz.prog 124 #[.slice a n c] w fun e w' => e = .returned (.slice a n c) ∧ w' = w := by
 go_enter Tryz.func124, Tryz.ntmps124
 go_wp2_with (fail)
 go_ret
 exact ⟨rfl, rfl⟩
theorem compact_walk (B n c : Nat) (a : Option Addr) (l : List At) (w : World) (hl : l.length = n) (h : w.ownsRow B 67 3 (.slice a n c) n (flat l)) (hn : n ≤ 1000000) :
  Calls Tryz.prog 124 #[.slice a n c] w fun e w' => e = .returned (.slice a (compL l).length c) ∧ w'.ownsRow B 67 3 (.slice a (compL l).length c) (compL l).length (flat (compL l)) ∧ w.grownBy w' (Value.slice a n c).ownBlock := by
 subst hl
 by_cases h2 : l.length < 2
 ·refine (compact_short a l.length c w h2).mono ?_
  rintro e w' ⟨rfl, rfl⟩
  rw [compL_short h2]
  exact ⟨rfl, h, ⟨rfl, rfl, rfl, Nat.le_refl _, fun _ _ _ => rfl⟩⟩
 ·rcases h.2 with ⟨hv, h0⟩ | ⟨g, cap, cur, hv, hb, hg, k1, k2, k3, k4⟩
  ·omega
  ·injection hv with hv1 hv2 hv3
   subst hv1 hv3
   have hH : HoldsK enc 3 w g 0 l.toArray := by
    unfold HoldsK
    rw [flatK_flat]
    exact holdsV hg (by rw [flat_len]; exact k4)
   refine (compact_mid g l.length c l.toArray w (by simp) hH (lt_of_block hg) (by omega) k1 hn).mono ?_
   rintro e w' (⟨rfl, hall, q, rfl⟩ | ⟨K, q, dk, rfl, hI, rfl⟩)
   ·rw [compL_all hall]
    exact ⟨rfl, ⟨h.1, .inr ⟨g, c, cur, rfl, hb, hg, k1, k2, k3, k4⟩⟩, ⟨rfl, rfl, rfl, Nat.le_refl _, fun _ _ _ => rfl⟩⟩
   ·obtain ⟨h3, h4⟩ := comp_end (q := q) (by simp) hb hg k1 k2 k3 hI
    have hK : (compL l).length = K := hI.len
    rw [hK]
    exact ⟨rfl, h3, h4⟩
end Effect
end Go.Proofs.YtkfkpjngiffamaaGreatDoor
namespace Go.Proofs.YtkfkpjngiffamaaGreatDoor
open Go.RowKit Go.Sort Go.Shelf Go.Lib
set_option linter.unusedVariables false
set_option linter.unusedSimpArgs false
namespace Effect

theorem infoAtom : (Tryz.prog.info? 67).map (fun i => (i.zero, i.size, i.bytes)) = some (some (.agg #[.int .u8 0, .int .i64 0, .string ⟨#[]⟩]), 3, 32) := by kernel_rfl
theorem info_parts : ∃ i, Tryz.prog.info? 67 = some i ∧ i.zero = some (.agg #[.int .u8 0, .int .i64 0, .string ⟨#[]⟩]) ∧ i.size = 3 ∧ i.bytes = 32 := by
 have h := infoAtom
 cases hi : Tryz.prog.info? 67 with
 | none => rw [hi] at h; cases h
 | some i =>
  rw [hi] at h
  simp only [Option.map_some, Option.some.injEq, Prod.mk.injEq] at h
  exact ⟨i, rfl, h.1, h.2.1, h.2.2⟩
theorem filter_step (p : At → Bool) (l : List At) (x : At) : (l ++ [x]).filter p = l.filter p ++ if p x then [x] else [] := by
 rw [List.filter_append]; cases h : p x <;> simp [h]
theorem at_take (l : List At) (j : Nat) (hj : j < l.length) : l.take (j + 1) = l.take j ++ [aget l j] := by
 rw [List.take_add_one, aget_at hj]; rfl
theorem enc_one (x : At) : ∀ u ∈ enc x, u.oneCell' = true := fun u hu => by
 simp [enc] at hu
 rcases hu with rfl | rfl | rfl <;> rfl
theorem flat_one (l : List At) : ∀ u ∈ flat l, u.oneCell' = true := fun u hu => by
 unfold flat at hu
 obtain ⟨a, _, ha⟩ := List.mem_flatMap.1 hu
 exact enc_one a u ha
theorem flat_single (x : At) : flat [x] = enc x := by simp [flat]
theorem new_atom {w : World} {N : Nat} {x : At} {ty : TypeId} (hN : N = w.heap.size) : ∀ j u, (enc x)[j]? = some u → (w.alloc (.cells #[.int .u8 x.k, .int .i64 x.r, .string x.x] ty)).cell? ((⟨N, 0, none⟩ : Addr).add j) = some u := by
 intro j u hu
 subst hN
 rw [Addr.add_lit, Nat.zero_add, World.cell?_alloc_mark]
 simpa [enc] using hu
def Row (B : Nat) (W : World) (v : Value) (l : List At) : Prop := W.ownsRow B 67 3 v l.length (flat l)
theorem Row.nil (B : Nat) (W : World) : Row B W (.slice none 0 0) [] := World.ownsRow_nil _ _ _ _
theorem Row.below {B : Nat} {W W' : World} {v : Value} {l : List At} (h : Row B W v l) (hb : Below W.heap.size W W') : Row B W' v l := own_below h hb
theorem Row.own {B m : Nat} {W W' : World} {v : Value} {l : List At} (h : Row B W v l) (hm : m = l.length) (hb : Below W.heap.size W W') : W'.ownsRow B 67 3 v m (flat l) := by
 subst hm; exact own_below h hb
theorem Row.slice {B : Nat} {W : World} {v : Value} {l : List At} (h : Row B W v l) : ∃ a c, v = .slice a l.length c := by
 obtain ⟨a, c, h1, _⟩ := own_slice h; exact ⟨a, c, h1⟩
theorem Row.at {B c n : Nat} {W : World} {a : Option Addr} {l : List At} (h : Row B W (.slice a n c) l) : n = l.length ∧ AtsAt W a l := by
 obtain ⟨a', c', h1⟩ := h.slice
 injection h1 with e1 e2 e3
 subst e2
 exact ⟨rfl, AtsAt.of_own rfl h⟩
theorem Row.grown {B : Nat} {W0 W W' : World} {v : Value} {l : List At} (h : Row B W v l) (hb : Below B W0 W) (hg : W.grownBy W' v.ownBlock) (hB : B ≤ W.heap.size) : Below B W0 W' := hb.grown hg hB fun g e => (h.lt g e).1

set_option maxRecDepth 100000 in
set_option maxHeartbeats 6400000 in
theorem withoutOdd_walk (n c : Nat) (a : Option Addr) (l : List At) (w : World) (hl : l.length = n) (hn : n ≤ 100000) (ha : AtsAt w a l) (hok : ∀ x ∈ l, x.x.size ≤ maxLen) :
  Calls Tryz.prog 120 #[.func (.func 121) #[] #[], .slice a n c] w fun e w' => ∃ v, e = .returned v ∧ Row w.heap.size w' v (l.filter atomB) ∧ Below w.heap.size w w' := by
 obtain ⟨i0, hi, hz0, hz2, hz3⟩ := info_parts
 have HI := Lib.hid hi; have HZ0 := Lib.hid hz0; have HZ2 := Lib.hid hz2; have HZ3 := Lib.hid hz3
 have HG := Lib.hid (fun (x : At) (W : World) (hx : x.x.size ≤ maxLen) (_ : Below w.heap.size w W) (_ : w.heap.size ≤ W.heap.size) => odd_walk x W hx)
 have HL := Lib.hid hl; have HA := Lib.hid ha; have HOK := Lib.hid hok
 clear hi hz0 hz2 hz3 hl ha hok
 go_enter Tryz.func120, Tryz.ntmps120
 go_wp2_with (fail)
 go_loopw [5, 10] (fun own i wr => ∃ (j m c1 : Nat) (a1 : Option Addr), j ≤ n ∧ m ≤ j ∧ i = .int .i64 (j : Int) ∧ own = .slice a1 m c1 ∧ Hid (m = ((l.take j).filter atomB).length) ∧ Hid (Row w.heap.size wr (.slice a1 m c1) ((l.take j).filter atomB)) ∧ Hid (Below w.heap.size w wr)) (fun _ i _ => n - (intOf i).toNat)
 case atStart => exact ⟨0, 0, 0, none, Nat.zero_le _, Nat.le_refl _, rfl, rfl, Lib.hid (by simp), Lib.hid (by rw [List.take_zero]; exact Row.nil _ _), Lib.hid (Below.refl _ _)⟩
 case round =>
  obtain ⟨j, m, c1, a1, hj, hmj, rfl, rfl, HM, HR, HS⟩ := hrel
  by_cases hlt : j < n
  ·have hjl : j < l.length := by rw [HL.out]; exact hlt
   obtain ⟨b, o, rfl, e0, e1, e2⟩ := (HA.out.below HS.out).get j hjl
   have hx := HOK.out _ (aget_mem hjl)
   have htk := at_take l j hjl
   generalize aget l j = x at *
   have HX := Lib.hid hx; have HT := Lib.hid htk
   have HC := Lib.hid fun O : Obj => HG.out x (wr.alloc O) hx (Below.trans HS.out ((al_new O).mono HS.out.size)) (Nat.le_trans HS.out.size (by simp))
   clear hx htk hjl
   go_wp2_with (fail)
   refine (HC.out _).mono ?_
   rintro e w2 ⟨rfl, hb2⟩
   have hbox := (hb2.block wr.heap.size (by simp)).trans (heap_alloc_new wr _)
   obtain ⟨⟨x0, x1, x2⟩, -, -⟩ := c3 hbox
   have hB2 : Below wr.heap.size wr w2 := (al_new _).trans (hb2.mono (by simp))
   have HR2 := Lib.hid (HR.out.below hB2); have HS2 := Lib.hid (below_then HS.out hB2 HS.out.size)
   clear hb2 hbox hB2 e0 e1 e2
   cases hp : atomB x
   ·have HP := Lib.hid hp
    clear hp
    simp only [Bool.not_false, Bool.not_true]
    go_wp2_with (fail)
    go_roundw
    case rel => exact ⟨j + 1, m, c1, a1, by omega, by omega, by go_num, rfl, Lib.hid (by rw [HT.out, filter_step, HP.out]; simpa using HM.out), Lib.hid (by rw [HT.out, filter_step, HP.out]; simpa using HR2.out), HS2⟩
    case measure => simp [intOf]; omega
   ·have HP := Lib.hid hp
    clear hp
    simp only [Bool.not_false, Bool.not_true]
    go_wp2_with (at_builtin; refine wpList_append_own_at _ rfl (.tmp 18) (.tmp 20) 25 rfl w.heap.size 67 i0 _ 3 32 Tryz.underlying25 HI.out HZ0.out HZ2.out HZ3.out rfl (by omega) (.slice a1 m c1) m (flat ((l.take j).filter atomB)) rfl (HR2.out.own HM.out (al_new _)) _ 1 1 (enc x) rfl rfl (new_atom rfl) (enc_one x) (by unfold maxLen; omega) (by omega) (by have := HS2.out.size; simp; omega) ?_; intro v' w3 hown hgr hnil hat; obtain ⟨a3, c3', rfl, -, -⟩ := own_slice hown; have HR3 := Lib.hid hown; have HS3 := Lib.hid ((below_then HS2.out (al_new _) HS2.out.size).grown hgr (by have := HS2.out.size; simp; omega) fun g hg => (HR2.out.lt g hg).1); clear hown hgr hnil hat)
    go_roundw
    case rel => exact ⟨j + 1, m + 1, c3', a3, by omega, by omega, by go_num, rfl, Lib.hid (by rw [HT.out, filter_step, HP.out, List.length_append, ← HM.out]; rfl), Lib.hid (by have := HR3.out; unfold Row; rw [HT.out, filter_step, HP.out, flat_append, List.length_append, ← HM.out]; simpa [flat] using this), HS3⟩
    case measure => simp [intOf]; omega
  ·obtain rfl : j = n := by omega
   have hr := HR.out
   rw [List.take_of_length_le (by rw [HL.out]; exact Nat.le_refl _)] at hr
   have HR' := Lib.hid hr
   clear hr
   go_wp2_with (fail)
   go_ret
   exact ⟨_, rfl, HR'.out, HS.out⟩
end Effect
end Go.Proofs.YtkfkpjngiffamaaGreatDoor
namespace Go.Proofs.YtkfkpjngiffamaaGreatDoor
open Go.RowKit Go.Sort Go.Shelf Go.Lib
set_option linter.unusedVariables false
set_option linter.unusedSimpArgs false
namespace Effect

set_option maxRecDepth 100000 in
set_option maxHeartbeats 6400000 in
theorem of_walk (n c : Nat) (a : Option Addr) (l : List At) (w : World) (hl : l.length = n) (hn : n ≤ 100000) (ha : AtsAt w a l) (hok : ∀ x ∈ l, x.x.size ≤ maxLen) :
  Calls Tryz.prog 105 #[.slice a n c] w fun e w' => ∃ v, e = .returned v ∧ Row w.heap.size w' v (ofA l) ∧ Below w.heap.size w w' := by
 have HC := Lib.hid (withoutOdd_walk n c a l w hl hn ha hok)
 have HL := Lib.hid hl; have HN := Lib.hid hn
 clear ha hok
 go_enter Tryz.func105, Tryz.ntmps105
 go_wp2_with (fail)
 refine HC.out.mono ?_
 rintro e w1 ⟨v, rfl, hr1, hb1⟩
 obtain ⟨a1, c1, rfl⟩ := hr1.slice
 have hfl : (l.filter atomB).length ≤ l.length := List.length_filter_le _ _
 have hmem : ∀ b, b ∈ l.filter atomB ↔ b ∈ l ∧ atomB b = true := fun b => by rw [List.mem_filter]
 generalize l.filter atomB = k at *
 have HM := Lib.hid hmem; have HR1 := Lib.hid hr1; have HB1 := Lib.hid hb1; have HF := Lib.hid hfl
 have HS := Lib.hid (sort_walk w.heap.size k.length c1 a1 k w1 rfl hr1 (by omega))
 obtain ⟨m, hm⟩ : ∃ m, k.length = m := ⟨_, rfl⟩
 have HK := Lib.hid hm
 have hm2 : m ≤ n := by omega
 rw [hm] at HS ⊢
 clear hmem hr1 hb1 hfl hm hl
 go_wp2_with (fail)
 refine HS.out.mono ?_
 rintro e w2 ⟨rfl, s, hsl, hp, hpw, hs2, hg2⟩
 have HB2 := Lib.hid (HB1.out.grown hg2 HB1.out.size fun g e => (HR1.out.lt g (by rw [HK.out]; exact e)).1)
 have HE := Lib.hid (compL_of (l := l) hpw fun b => by rw [hp.mem_iff]; exact HM.out b)
 have HW := Lib.hid hs2
 have HT := Lib.hid (compact_walk w.heap.size m c1 a1 s w2 (by rw [hsl]) hs2 (by omega))
 clear hsl hp hpw hs2 hg2
 go_wp2_with (fail)
 refine HT.out.mono ?_
 rintro e w3 ⟨rfl, hs3, hg3⟩
 have HB3 := Lib.hid (HB2.out.grown hg3 HB2.out.size fun g e => (HW.out.lt g e).1)
 have HW3 := Lib.hid hs3
 clear hs3 hg3
 go_wp2_with (fail)
 go_ret
 exact ⟨_, rfl, by unfold Row; rw [← HE.out]; exact HW3.out, HB3.out⟩
end Effect
end Go.Proofs.YtkfkpjngiffamaaGreatDoor

namespace Go.Proofs.YtkfkpjngiffamaaGreatDoor
open Go.RowKit Go.Sort Go.Shelf Go.Lib
set_option linter.unusedVariables false
set_option linter.unusedSimpArgs false
namespace Effect

def rget (rs : List (List At)) (i : Nat) : List At := rs.getD i []
theorem rget_at {rs : List (List At)} {i : Nat} (h : i < rs.length) : rs[i]? = some (rget rs i) := by
 unfold rget; rw [List.getD_eq_getElem?_getD, List.getElem?_eq_getElem h]; rfl
theorem rget_mem {rs : List (List At)} {i : Nat} (h : i < rs.length) : rget rs i ∈ rs := List.mem_of_getElem? (rget_at h)
def RowsAt (w : World) (p : Option Addr) (rs : List (List At)) : Prop := rs = [] ∨ ∃ b o, p = some ⟨b, o, none⟩ ∧ ∀ i, i < rs.length → ∃ q c, w.cell? ⟨b, o + i, none⟩ = some (.slice q (rget rs i).length c) ∧ AtsAt w q (rget rs i)
theorem RowsAt.below {w W : World} {p : Option Addr} {rs : List (List At)} (h : RowsAt w p rs) (hb : Below w.heap.size w W) : RowsAt W p rs := by
 refine h.imp id ?_
 rintro ⟨b, o, hp, hc⟩
 refine ⟨b, o, hp, fun i hi => ?_⟩
 obtain ⟨q, c, h1, h2⟩ := hc i hi
 exact ⟨q, c, (hb.cell (p := ⟨b, _, none⟩) (World.block_lt_of_cell? w _ h1)).trans h1, h2.below hb⟩
theorem RowsAt.get {w : World} {p : Option Addr} {rs : List (List At)} (h : RowsAt w p rs) (i : Nat) (hi : i < rs.length) : ∃ b o q c, p = some ⟨b, o, none⟩ ∧ w.cell? ⟨b, o + i, none⟩ = some (.slice q (rget rs i).length c) ∧ AtsAt w q (rget rs i) := by
 rcases h with rfl | ⟨b, o, hp, hc⟩
 ·simp at hi
 ·obtain ⟨q, c, h1, h2⟩ := hc i hi
  exact ⟨b, o, q, c, hp, h1, h2⟩
theorem AtsAt.cells {w : World} {b o : Nat} {l : List At} (h : AtsAt w (some ⟨b, o, none⟩) l) : ∀ j u, (flat l)[j]? = some u → w.cell? ((⟨b, o, none⟩ : Addr).add j) = some u := by
 intro j u hu
 have hj : j < l.length * 3 := by
  rcases Nat.lt_or_ge j (flat l).length with q | q
  ·rw [flat_len] at q; exact q
  ·rw [List.getElem?_eq_none q] at hu; cases hu
 have hi : j / 3 < l.length := by omega
 rcases h with rfl | ⟨b', o', hp, hc⟩
 ·simp at hi
 ·injection hp with hp
  injection hp with h1 h2 h3
  subst h1 h2
  obtain ⟨e0, e1, e2⟩ := hc (j / 3) hi
  have hf := flat_get l (j / 3) hi (j % 3) (Nat.mod_lt j (by omega))
  rw [show j / 3 * 3 + j % 3 = j by omega, hu] at hf
  rw [Addr.add_lit]
  rcases (by omega : j % 3 = 0 ∨ j % 3 = 1 ∨ j % 3 = 2) with q | q | q
  ·rw [q] at hf; simp [enc] at hf; rw [show o + j = o + j / 3 * 3 by omega, e0, hf]
  ·rw [q] at hf; simp [enc] at hf; rw [show o + j = o + j / 3 * 3 + 1 by omega, e1, hf]
  ·rw [q] at hf; simp [enc] at hf; rw [show o + j = o + j / 3 * 3 + 2 by omega, e2, hf]
end Effect
end Go.Proofs.YtkfkpjngiffamaaGreatDoor
namespace Go.Proofs.YtkfkpjngiffamaaGreatDoor
open Go.RowKit Go.Sort Go.Shelf Go.Lib
set_option linter.unusedVariables false
set_option linter.unusedSimpArgs false
namespace Effect

theorem allEq_dec : ∀ (l m : List At), allEq (fun a b => decide (a = b)) l m = decide (l = m) := by
 intro l m
 induction l generalizing m with
 | nil => cases m <;> simp [allEq]
 | cons a l ih => cases m with
  | nil => simp [allEq]
  | cons b m => simp [allEq, ih]
set_option maxHeartbeats 3200000 in
theorem equal_short (n m c d : Nat) (a b : Option Addr) (w : World) (h : n = 0 ∨ m = 0) (hn : n ≤ 1000000) (hm : m ≤ 1000000) : Calls Tryz.prog 104 #[.slice a n c, .slice b m d] w fun e w' => e = .returned (.bool (decide (n = m))) ∧ w' = w := by
 by_cases hnm : n = m
 ·obtain rfl : n = 0 := by omega
  subst hnm
  clear h
  go_enter Tryz.func104, Tryz.ntmps104
  go_wp2_with (fail)
  go_loopg [13] 0 (fun g s13 wr => s13 = .int .i64 0 ∧ wr = w)
  case atStart => exact ⟨rfl, rfl⟩
  case round =>
   obtain ⟨rfl, rfl⟩ := hrel
   go_wp2_with (fail)
   go_ret
   exact ⟨ret_bool (by simp), rfl⟩
 ·have HNM := Lib.hid hnm
  clear h
  go_enter Tryz.func104, Tryz.ntmps104
  go_wp2_with (fail)
  go_ret
  exact ⟨ret_bool (by rw [decide_eq_false HNM.out]), rfl⟩
theorem len_eq_of {l m : List At} (h : l.length = 0 ∨ m.length = 0) : decide (l.length = m.length) = decide (l = m) := by
 cases l <;> cases m <;> simp_all
theorem equal_walk (n m c d : Nat) (a b : Option Addr) (l k : List At) (w : World) (hl : l.length = n) (hk : k.length = m) (hn : n ≤ 100000) (hm : m ≤ 100000) (ha : AtsAt w a l) (hb : AtsAt w b k) : Calls Tryz.prog 104 #[.slice a n c, .slice b m d] w fun e w' => e = .returned (.bool (decide (l = k))) ∧ Below w.heap.size w w' := by
 subst hl hk
 rcases ha with rfl | ⟨b1, o1, rfl, h1⟩
 ·refine (equal_short 0 k.length c d a b w (.inl rfl) (by omega) (by omega)).mono ?_
  rintro e w' ⟨rfl, rfl⟩
  exact ⟨ret_bool (len_eq_of (l := []) (.inl rfl)), Below.refl _ _⟩
 ·rcases hb with rfl | ⟨b2, o2, rfl, h2⟩
  ·refine (equal_short l.length 0 c d _ b w (.inr rfl) (by omega) (by omega)).mono ?_
   rintro e w' ⟨rfl, rfl⟩
   exact ⟨ret_bool (len_eq_of (m := []) (.inr rfl)), Below.refl _ _⟩
  ·have key : ∀ (b o : Nat) (x : List At), (∀ i, i < x.length → w.cell? ⟨b, o + i * 3, none⟩ = some (.int .u8 (aget x i).k) ∧ w.cell? ⟨b, o + i * 3 + 1, none⟩ = some (.int .i64 (aget x i).r) ∧ w.cell? ⟨b, o + i * 3 + 2, none⟩ = some (.string (aget x i).x)) → ∀ j, j < x.length → ∀ i v, (enc x[j]!)[i]? = some v → w.cell? ⟨b, o + j * 3 + i, none⟩ = some v := fun b o x h j hj i v hv => by
    have e : x[j]! = aget x j := by unfold aget; rw [List.getD_eq_getElem?_getD, List.getElem!_eq_getElem?_getD]
    rw [e] at hv
    obtain ⟨c0, c1, c2⟩ := h j hj
    match i, hv with
    | 0, hv => simp [enc] at hv; rw [← hv]; exact c0
    | 1, hv => simp [enc] at hv; rw [← hv]; exact c1
    | 2, hv => simp [enc] at hv; rw [← hv]; exact c2
    | i + 3, hv => simp [enc] at hv
   have hc := AnyQ.slices_Equal Tryz.equalAt 3 Tryz.isAgg67 Tryz.sizeOf67 enc (fun _ => rfl) (fun a b => decide (a = b)) neAt b1 o1 l.length c b2 o2 k.length d l k w (Nat.le_refl _) (Nat.le_refl _) (by omega) (by omega) (key b1 o1 l h1) (key b2 o2 k h2)
   change Calls Tryz.prog 104 _ _ _ at hc
   refine hc.mono ?_
   rintro e w' ⟨rfl, q, rfl⟩
   rw [List.take_length, List.take_length, allEq_dec]
   exact ⟨rfl, ⟨rfl, rfl, rfl, Nat.le_refl _, fun _ _ => rfl⟩⟩
theorem of_le (l : List At) : (ofA l).length ≤ l.length := by
 have key : ∀ (k e : List At), (k.foldl putA e).length ≤ e.length + k.length := fun k => by
  induction k with
  | nil => intro e; simp
  | cons a k ih =>
   intro e
   have h1 := ih (putA e a)
   have h2 : (putA e a).length ≤ e.length + 1 := by
    unfold putA
    split
    ·have h3 : ∀ x : List At, (insA a x).length = x.length + 1 := fun x => by
      induction x with
      | nil => rfl
      | cons y x ih2 => unfold insA; split <;> simp [ih2]
     rw [h3]; exact Nat.le_refl _
    ·omega
   show ((k.foldl putA (putA e a)).length) ≤ _
   rw [List.length_cons]
   omega
 have := key l []
 simpa [ofA] using this
theorem of_ok {l : List At} {n : Nat} (h : ∀ x ∈ l, x.x.size ≤ n) : ∀ x ∈ ofA l, x.x.size ≤ n := fun x hx => h x ((mem_of l x).1 hx).1
end Effect
end Go.Proofs.YtkfkpjngiffamaaGreatDoor
namespace Go.Proofs.YtkfkpjngiffamaaGreatDoor
open Go.RowKit Go.Sort Go.Shelf Go.Lib
set_option linter.unusedVariables false
set_option linter.unusedSimpArgs false
namespace Effect

structure Rd (w : World) (n : Nat) (a : Option Addr) (l : List At) : Prop where
 len : l.length = n
 at_ : AtsAt w a l
 ok : ∀ x ∈ l, x.x.size ≤ maxLen
theorem Rd.below {w W : World} {n : Nat} {a : Option Addr} {l : List At} (h : Rd w n a l) (hb : Below w.heap.size w W) : Rd W n a l := ⟨h.len, h.at_.below hb, h.ok⟩
theorem Rd.of_row {B n c : Nat} {w : World} {a : Option Addr} {l : List At} (h : Row B w (.slice a n c) l) (hok : ∀ x ∈ l, x.x.size ≤ maxLen) : Rd w n a l := ⟨h.at.1.symm, h.at.2, hok⟩
theorem ofR {n c : Nat} {a : Option Addr} {l : List At} {w : World} (h : Rd w n a l) (hn : n ≤ 100000) : Calls Tryz.prog 105 #[.slice a n c] w fun e w' => ∃ a' m c', e = .returned (.slice a' m c') ∧ m ≤ n ∧ Row w.heap.size w' (.slice a' m c') (ofA l) ∧ Rd w' m a' (ofA l) ∧ Below w.heap.size w w' := by
 refine (of_walk n c a l w h.len hn h.at_ h.ok).mono ?_
 rintro e w' ⟨v, rfl, hr, hb⟩
 obtain ⟨a', c', rfl⟩ := hr.slice
 exact ⟨a', _, c', rfl, by have := of_le l; rw [h.len] at this; exact this, hr, Rd.of_row hr (of_ok h.ok), hb⟩
theorem equalR {n m c d : Nat} {a b : Option Addr} {l k : List At} {w : World} (h1 : Rd w n a l) (h2 : Rd w m b k) (hn : n ≤ 100000) (hm : m ≤ 100000) : Calls Tryz.prog 104 #[.slice a n c, .slice b m d] w fun e w' => e = .returned (.bool (decide (l = k))) ∧ Below w.heap.size w w' :=
 equal_walk n m c d a b l k w h1.len h2.len hn hm h1.at_ h2.at_
set_option maxRecDepth 100000 in
set_option maxHeartbeats 6400000 in
theorem may_walk {n c : Nat} {a : Option Addr} {l : List At} {w : World} (h : Rd w n a l) (hn : n ≤ 100000) : Calls Tryz.prog 84 #[.slice a n c] w fun e w' => e = .returned (.bool (decide (l = ofA l))) ∧ Below w.heap.size w w' := by
 have H := Lib.hid h; have HC := Lib.hid (ofR (c := c) h hn)
 clear h
 go_enter Tryz.func84, Tryz.ntmps84
 go_wp2_with (fail)
 refine HC.out.mono ?_
 rintro e w1 ⟨a1, m1, c1, rfl, hm, -, hr1, hb1⟩
 have HE := Lib.hid (equalR (c := c) (d := c1) (H.out.below hb1) hr1 hn (by omega))
 have HB := Lib.hid hb1
 clear hr1 hb1
 go_wp2_with (fail)
 refine HE.out.mono ?_
 rintro e w2 ⟨rfl, hb2⟩
 have HB2 := Lib.hid (below_then HB.out hb2 HB.out.size)
 clear hb2
 go_wp2_with (fail)
 go_ret
 exact ⟨rfl, HB2.out⟩
end Effect
end Go.Proofs.YtkfkpjngiffamaaGreatDoor
namespace Go.Proofs.YtkfkpjngiffamaaGreatDoor
open Go.RowKit
set_option linter.unusedVariables false
namespace Effect

def digs (n : Int) : ByteArray := ⟨(Lib.itoa n).toArray⟩
theorem bytes_ext {s t : ByteArray} (h : s.data.toList = t.data.toList) : s = t := by
 cases s; cases t; simpa using h
theorem ret_str {a b : ByteArray} (h : a = b) : Ending.returned (.string a) = .returned (.string b) := by rw [h]
def NumLaid (w : World) : Prop := Lib.TabIs Tryz.prog w "internal/strconv.uint64pow10" .u64 Lib.pow10Tab
theorem gPow : Tryz.prog.globalNamed "internal/strconv.uint64pow10" = some 4 := by kernel_rfl
theorem NumLaid.below {w W : World} (h : NumLaid w) (hb : Below w.heap.size w W) : NumLaid W := Go.Joins.tab_stays gPow h hb (Nat.le_refl _)
theorem digitsOf_walk (n : Int) (h0 : -9223372036854775808 ≤ n) (h1 : n ≤ 9223372036854775807) (w : World) (hl : NumLaid w) :
  Calls Tryz.prog 47 #[.int .i64 n] w fun e w' => e = .returned (.string (digs n)) ∧ Below w.heap.size w w' := by
 have H0 := Lib.hid h0; have H1 := Lib.hid h1; have HL := Lib.hid hl
 clear h0 h1 hl
 go_enter Tryz.func47, Tryz.ntmps47
 go_wp2_with (fail)
 refine (Tryz.strconv_FormatInt_10 n H0.out H1.out _ HL.out).mono ?_
 rintro e w' ⟨rfl, k, os, rfl⟩
 have hb := Lib.below_grow w.heap.size w (Nat.le_refl _) k os
 have HB := Lib.hid hb; clear hb
 go_wp2
 go_ret
 exact ⟨rfl, HB.out⟩
end Effect
end Go.Proofs.YtkfkpjngiffamaaGreatDoor
