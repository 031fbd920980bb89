/- The walk of slices.Compact at rows of atoms. -/
import Derived.Test.YtggabjmfdnfckaaGreatDoorEfCompact
import Derived.Shelf.RegionOpenPlain
namespace Go.Proofs.YtggabjmfdnfckaaGreatDoor
open Go.RowKit Go.Sort Go.Shelf Go.Lib
set_option linter.unusedVariables false
set_option linter.unusedSimpArgs false
namespace Effect

theorem eqIn (a b : At) (w : World) : (Op.equalIn 10000 47 (.agg (enc a).toArray) (.agg (enc b).toArray)).run Tryz.prog w = .ok (decide (a = b)) w := by
  have h := eqAt.1 a b w
  change (binOp .eql 47 (.agg (enc a).toArray) (.agg (enc b).toArray)).run Tryz.prog w = _ at h
  rw [run_eql_struct] at h
  generalize (Op.equalIn 10000 47 (.agg (enc a).toArray) (.agg (enc b).toArray)).run Tryz.prog w = R at *
  cases R with
  | ok b w1 => simp [Result.andThen] at h ⊢; exact ⟨h.1, h.2⟩
  | halt a b => simp [Result.andThen] at h
theorem holds_fact {w : World} {g : Nat} {d : Array At} (h : HoldsK enc 3 w g 0 d) {i : Nat} (hi : i < d.size) {x : At} (hx : d[i]! = x) : w.cell? ⟨g, i * 3, none⟩ = some (.int .u8 x.k) ∧ w.cell? ⟨g, i * 3 + 1, none⟩ = some (.int .i64 x.r) ∧ w.cell? ⟨g, i * 3 + 2, none⟩ = some (.string x.x) := by
  have := (three h hi).1
  rw [hx] at this
  exact this
theorem holds_at {w : World} {g : Nat} {d : Array At} (h : HoldsK enc 3 w g 0 d) {i o : Nat} (hi : i < d.size) (ho : o = i * 3) {x : At} (hx : d[i]! = x) : (w.cell? ⟨g, o, none⟩ = some (.int .u8 x.k) ∧ w.cell? ⟨g, o + 1, none⟩ = some (.int .i64 x.r) ∧ w.cell? ⟨g, o + 2, none⟩ = some (.string x.x)) ∧ (w.frozen? ⟨g, o, none⟩ = false ∧ w.frozen? ⟨g, o + 1, none⟩ = false ∧ w.frozen? ⟨g, o + 2, none⟩ = false) := by
  subst ho hx
  exact three h hi
theorem store3 {w wr : World} {g q i : Nat} {dk : Array At} (hi : i < dk.size) (hwr : wr = putRowK enc 3 (Sort.ahead w q) g 0 dk) (u : At) : (((wr.setCell ⟨g, i * 3, none⟩ (.int .u8 u.k)).setCell ⟨g, i * 3 + 1, none⟩ (.int .i64 u.r)).setCell ⟨g, i * 3 + 2, none⟩ (.string u.x)).drew = putRowK enc 3 (Sort.ahead w (q + 1)) g 0 (dk.setIfInBounds i u) := by
  subst hwr
  rw [put_set _ _ _ _ _ hi]
  exact drewN_worldK enc 3 rfl 1
set_option maxRecDepth 100000 in
set_option maxHeartbeats 12800000 in
theorem compact_mid (g n c : Nat) (d : Array At) (w : World) (hds : d.size = n) (hH : HoldsK enc 3 w g 0 d) (hg : g < w.heap.size) (hn2 : 2 ≤ n) (hc : n ≤ c) (hn : n ≤ 1000000) :
    Calls Tryz.prog 42 #[.slice (some ⟨g, 0, none⟩) n c] w fun e w' => (e = .returned (.slice (some ⟨g, 0, none⟩) n c) ∧ (∀ j, j < n → keeps d j = true) ∧ ∃ q, w' = w.drewN q) ∨
      ∃ K q dk, e = .returned (.slice (some ⟨g, 0, none⟩) K c) ∧ CompInv d n K dk ∧ w' = (putRowK enc 3 (Sort.ahead w q) g 0 dk).setCells g (K * 3) (flat (List.replicate (n - K) zA)) := by
  have mixed : Tryz.prog.follows .mixedOrders = true := by kernel_rfl
  have HEQ := Lib.hid eqIn
  have HGD := Lib.hid (show ∀ (op : BinOp) (u v : Operand) (a b : At) (w : World), (eqGuard op 47 u v (.agg #[.int .u8 a.k, .int .i64 a.r, .string a.x]) (.agg #[.int .u8 b.k, .int .i64 b.r, .string b.x])).run Tryz.prog w = .ok () w from fun op u v a b w => eqAt.2 op u v a b w)
  have HH := Lib.hid hH; have HDS := Lib.hid hds
  clear hH hds
  go_enter Tryz.func42, Tryz.ntmps42
  go_wp2_with (fail)
  go_loopg [3] n (fun gh s3 wr => ∃ k k1 q : Nat, Hid (k1 = k + 1) ∧ k1 ≤ n ∧ n - k1 ≤ gh ∧ s3 = .int .i64 (k1 : Int) ∧ wr = w.drewN q ∧ Hid (∀ j, j < k1 → keeps d j = true))
  case atStart => exact ⟨0, 1, 0, Lib.hid rfl, by omega, by omega, rfl, rfl, Lib.hid (keeps_lt_one d)⟩
  case round =>
    obtain ⟨k, k1, q, HK, hk, hgh, rfl, rfl, HA⟩ := hrel
    by_cases hlt : k1 < n
    · obtain ⟨x, hx⟩ : ∃ x, d[k1]! = x := ⟨_, rfl⟩
      obtain ⟨y, hy⟩ : ∃ y, d[k]! = y := ⟨_, rfl⟩
      have HXY := Lib.hid (And.intro hx hy)
      obtain ⟨a0, a1, a2⟩ := holds_fact HH.out (i := k1) (by rw [HDS.out]; exact hlt) hx
      obtain ⟨b0, b1, b2⟩ := holds_fact HH.out (i := k) (by have := HK.out; rw [HDS.out]; omega) hy
      have hkk : (k : Int) < n := by have := HK.out; omega
      have hi1 : IntKind.i64.wrap ((k1 : Int) - 1) = (k : Int) := by have := HK.out; rw [IntWalk.i64_in _ (by omega)]; omega
      clear hx hy
      have hgd := HGD.out
      have hq := HEQ.out x y
      simp only [enc] at hq
      by_cases hdup : x = y
      · have hd : decide (x = y) = true := decide_eq_true hdup
        rw [hd] at hq
        have HDUP := Lib.hid hdup
        clear hd hdup
        go_wp2_with (fail)
        go_region_o
        clear a0 a1 a2 b0 b1 b2 hgd hq hi1 hkk
        go_wp2_with (fail)
        go_loopg [3, 5] n (fun gh s3 s5 wr => ∃ (kk k2 kp q2 : Nat) (dk : Array At), Hid (k2 = kp + 1) ∧ s3 = .int .i64 (kk : Int) ∧ s5 = .int .i64 (k2 : Int) ∧ k1 + k2 ≤ n ∧ n - (k1 + k2) ≤ gh ∧ kk < n ∧ Hid (wr = putRowK enc 3 (Sort.ahead w q2) g 0 dk) ∧ Hid (CompInv d (k1 + k2) kk dk))
        case atStart => exact ⟨k1, 1, 0, q + 1, d, Lib.hid rfl, rfl, rfl, by omega, by omega, hlt, Lib.hid (putRowK_self enc 3 (Sort.ahead w (q + 1)) g 0 d (holdsK_ahead enc 3 w (q + 1) g 0 d HH.out)).symm, Lib.hid (CompInv.start HA.out (keeps_neg (by have := HK.out; omega) (by rw [HXY.out.1, show k1 - 1 = k by have := HK.out; omega, HXY.out.2]; exact HDUP.out)))⟩
        case round =>
          obtain ⟨kk, k2, kp, q2, dk, HK2, rfl, rfl, hle, hg2, hkk, HW2, HI2⟩ := hrel
          have hHk : HoldsK enc 3 wr g 0 dk := by rw [HW2.out]; exact holdsK_putRowK enc 3 (Sort.ahead w q2) g 0 d dk (holdsK_ahead enc 3 w q2 g 0 d HH.out) HI2.out.size
          have hsz : dk.size = n := by rw [HI2.out.size]; exact HDS.out
          by_cases hlt2 : k1 + k2 < n
          · obtain ⟨u, hu⟩ : ∃ u, d[k1 + k2]! = u := ⟨_, rfl⟩
            obtain ⟨v, hv⟩ : ∃ v, d[k1 + kp]! = v := ⟨_, rfl⟩
            have hklt := HI2.out.lt
            obtain ⟨⟨a0, a1, a2⟩, -⟩ := holds_at hHk (i := k1 + k2) (o := k1 * 3 + k2 * 3) (by omega) (by omega) ((HI2.out.high _ (by omega)).trans hu)
            obtain ⟨⟨b0, b1, b2⟩, -⟩ := holds_at hHk (i := k1 + kp) (o := k1 * 3 + kp * 3) (by have := HK2.out; omega) (by omega) ((HI2.out.high _ (by have := HK2.out; omega)).trans hv)
            obtain ⟨⟨e0, e1, e2⟩, f0, f1, f2⟩ := holds_at hHk (i := kk) (o := kk * 3) (by omega) rfl rfl
            have HUV := Lib.hid (And.intro hu hv); have HSZ := Lib.hid hsz
            have hkn : kp + k1 < n := by have := HK2.out; omega
            have hi1 : IntKind.i64.wrap ((k2 : Int) - 1) = (kp : Int) := by have := HK2.out; rw [IntWalk.i64_in _ (by omega)]; omega
            clear hu hv hHk hsz hklt
            have hgd := HGD.out
            have hq := HEQ.out u v
            simp only [enc] at hq
            by_cases huv : u = v
            · have hd : decide (u = v) = true := decide_eq_true huv
              rw [hd] at hq
              have HDUP2 := Lib.hid huv
              clear hd huv
              go_wp2_with (fail)
              go_region_o
              go_wp2_with (fail)
              go_roundg (n - (k1 + (k2 + 1)))
              case measure => omega
              case rel => exact ⟨kk, k2 + 1, k2, q2 + 1, dk, Lib.hid rfl, rfl, by go_num, by omega, by omega, hkk, Lib.hid (drewN_worldK enc 3 HW2.out 1), Lib.hid (HI2.out.skip (keeps_neg (by have := HK2.out; omega) (by have := HK2.out; rw [HUV.out.1, show k1 + k2 - 1 = k1 + kp by omega, HUV.out.2]; exact HDUP2.out)))⟩
            · have hd : decide (u = v) = false := decide_eq_false huv
              rw [hd] at hq
              have HDUP2 := Lib.hid huv
              clear hd huv
              go_wp2_with (fail)
              go_region_o
              go_wp2_with (fail)
              go_roundg (n - (k1 + (k2 + 1)))
              case measure => omega
              case rel =>
                have hkeep := HI2.out.keep (by rw [HDS.out]; exact hlt2) (keeps_pos (by have := HK2.out; rw [HUV.out.1, show k1 + k2 - 1 = k1 + kp by omega, HUV.out.2]; exact HDUP2.out))
                rw [HUV.out.1] at hkeep
                have hlt3 := hkeep.lt
                exact ⟨kk + 1, k2 + 1, k2, q2 + 1, dk.setIfInBounds kk u, Lib.hid rfl, by go_num, by go_num, by omega, by omega, by omega, Lib.hid (store3 (by have := HSZ.out; omega) HW2.out u), Lib.hid hkeep⟩
          · have hend : k1 + k2 = n := by omega
            have hcl : ∀ ty, (Builtin.clear_ #[25] ty #[.slice (some ⟨g, kk * 3, none⟩) (n - kk) (c - kk)]).run Tryz.prog wr = .ok (.tuple #[]) (wr.setCells g (kk * 3) (flat (List.replicate (n - kk) zA))) := fun ty => clear_rows wr ty g (kk * 3) (n - kk) (c - kk) (by omega) (fun j hj => by
                have h := hHk.cell (i := kk + j / 3) (c := j % 3) (by omega) (Nat.mod_lt j (by omega))
                rw [show 0 + (kk + j / 3) * 3 + j % 3 = kk * 3 + j by omega] at h
                rw [h.1]; rfl) (fun j hj => by
                have h := hHk.cell (i := kk + j / 3) (c := j % 3) (by omega) (Nat.mod_lt j (by omega))
                rw [show 0 + (kk + j / 3) * 3 + j % 3 = kk * 3 + j by omega] at h
                exact h.2)
            have HEND := Lib.hid hend
            clear hHk hsz hend
            go_wp2_with (fail)
            go_ret
            refine .inr ⟨kk, q2, dk, rfl, ?_, by rw [← HW2.out]⟩
            rw [← HEND.out]; exact HI2.out
      · have hd : decide (x = y) = false := decide_eq_false hdup
        rw [hd] at hq
        have HDUP := Lib.hid hdup
        clear hd hdup
        go_wp2_with (fail)
        go_region_o
        go_wp2_with (fail)
        go_roundg (n - (k1 + 1))
        case measure => omega
        case rel =>
          refine ⟨k1, k1 + 1, q + 1, Lib.hid rfl, by omega, by omega, by go_num, rfl, Lib.hid fun j hj => ?_⟩
          by_cases e : j = k1
          · subst e
            exact keeps_pos (by have := HK.out; rw [HXY.out.1, show j - 1 = k by omega, HXY.out.2]; exact HDUP.out)
          · exact HA.out j (by omega)
    · obtain rfl : n = k1 := by omega
      go_wp2_with (fail)
      go_ret
      exact .inl ⟨rfl, HA.out, q, rfl⟩
end Effect
end Go.Proofs.YtggabjmfdnfckaaGreatDoor
