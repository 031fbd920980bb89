/- The document's: is it an atom, is it in a row. -/
import Derived.Test.YtggabjmfdnfckaaGreatDoorEfAwake
import Derived.Shelf.RegionOpenPlain
namespace Go.Proofs.YtggabjmfdnfckaaGreatDoor
open Go.RowKit
set_option linter.unusedVariables false
set_option linter.unusedSimpArgs false
namespace Effect

set_option maxHeartbeats 3200000 in
theorem refAtom_walk (a : At) (w : World) (hx : a.x.size ≤ maxLen) : Calls Tryz.prog 31 #[.agg #[.int .u8 a.k, .int .i64 a.r, .string a.x]] w fun e w' => e = .returned (.bool (atomB a)) ∧ Below w.heap.size w w' := by
  have hat : ∀ b, atomB a = b → atomB a = b := fun b h => h
  have hdef : atomB a = atomB a := rfl
  have HB := Lib.hid (fun O => al_new (W := w) O)
  by_cases h3 : a.k = 3
  · by_cases hr : a.r = 0
    · have ha : Words.exnB a.x = atomB a := by unfold atomB; rw [if_pos h3, hr]; simp
      have hex := fun W => Words.refExn_walk a.x W hx
      obtain ⟨k, r, x⟩ := a
      simp only at h3 hr ha hex
      subst h3 hr
      have HE := Lib.hid hex; have HA := Lib.hid ha
      clear hex hat hdef hx ha
      go_enter Tryz.func31, Tryz.ntmps31
      go_wp2_with (fail)
      refine (HE.out _).mono ?_
      rintro e w1 ⟨rfl, hb1⟩
      have H1 := Lib.hid (below_then (HB.out _) hb1 (by simp))
      clear hb1
      go_wp2_with (fail)
      go_ret
      exact ⟨ret_bool HA.out, H1.out⟩
    · have ha : false = atomB a := by unfold atomB; rw [if_pos h3, decide_eq_false hr]; simp
      obtain ⟨k, r, x⟩ := a
      simp only at h3 hr ha
      subst h3
      have hr1 : (r == 0) = false := by simpa using hr
      have HA := Lib.hid ha
      clear hat hdef hx ha hr
      go_enter Tryz.func31, Tryz.ntmps31
      go_wp2_with (fail)
      go_ret
      exact ⟨ret_bool HA.out, HB.out _⟩
  · by_cases h12 : a.k = 1 ∨ a.k = 2
    · by_cases hr : a.r < 0
      · have ha : false = atomB a := by unfold atomB; rw [if_neg h3, decide_eq_false (show ¬ 0 ≤ a.r by omega)]; simp
        obtain ⟨k, r, x⟩ := a
        simp only at h12 hr ha
        have HA := Lib.hid ha
        clear hat hdef hx ha h3
        rcases h12 with rfl | rfl
        all_goals
          go_enter Tryz.func31, Tryz.ntmps31
          go_wp2_with (fail)
          go_ret
          exact ⟨ret_bool HA.out, HB.out _⟩
      · have ha : a.x.toList.isEmpty = atomB a := by unfold atomB; rw [if_neg h3, ← emp a.x, decide_eq_true (show 0 ≤ a.r by omega)]; rcases h12 with h | h <;> rw [h] <;> simp
        obtain ⟨k, r, x⟩ := a
        simp only at h12 hr ha
        have HA := Lib.hid ha
        clear hat hdef hx ha h3
        rcases h12 with rfl | rfl
        all_goals
          go_enter Tryz.func31, Tryz.ntmps31
          go_wp2_with (fail)
          go_ret
          exact ⟨ret_bool HA.out, HB.out _⟩
    · have ha : false = atomB a := by unfold atomB; rw [if_neg h3, decide_eq_false (show ¬ a.k = 1 by omega), decide_eq_false (show ¬ a.k = 2 by omega)]; rfl
      obtain ⟨k, r, x⟩ := a
      simp only at h12 h3 ha
      have h1' : (k == 1) = false := by simp; omega
      have h2' : (k == 2) = false := by simp; omega
      have h3' : (k == 3) = false := by simp; omega
      have HA := Lib.hid ha
      clear hat hdef hx ha h3 h12
      go_enter Tryz.func31, Tryz.ntmps31
      go_wp2_with (fail)
      go_ret
      exact ⟨ret_bool HA.out, HB.out _⟩
theorem below_q {B : Nat} {w W : World} (h : Below B w W) : Below B w W.drew := ⟨h.os, h.tape, h.output, h.size, h.block⟩
set_option maxRecDepth 100000 in
set_option maxHeartbeats 6400000 in
theorem in_walk {n c : Nat} {a : Option Addr} {l : List At} {w : World} (h : Rd w n a l) (x : At) (hn : n ≤ 100000) : Calls Tryz.prog 46 #[.slice a n c, .agg #[.int .u8 x.k, .int .i64 x.r, .string x.x]] w fun e w' => e = .returned (.bool (decide (x ∈ l))) ∧ Below w.heap.size w w' := by
  have mixed : Tryz.prog.follows .mixedOrders = true := by kernel_rfl
  have HEQ := Lib.hid eqIn
  have HGD := Lib.hid (show ∀ (op : BinOp) (u v : Operand) (a b : At) (w : World), (eqGuard op 47 u v (.agg #[.int .u8 a.k, .int .i64 a.r, .string a.x]) (.agg #[.int .u8 b.k, .int .i64 b.r, .string b.x])).run Tryz.prog w = .ok () w from fun op u v a b w => eqAt.2 op u v a b w)
  have H := Lib.hid h
  have HB := Lib.hid (fun O => al_new (W := w) O)
  clear h
  go_enter Tryz.func46, Tryz.ntmps46
  go_wp2_with (fail)
  have HN := Lib.hid fun O => heap_alloc_new w O
  go_loopg [5, 8] n (fun gh _ i wr => ∃ j q : Nat, j ≤ n ∧ n - j ≤ gh ∧ i = .int .i64 (j : Int) ∧ wr = (w.alloc (.cells #[.int .u8 x.k, .int .i64 x.r, .string x.x] 47)).drewN q ∧ Hid (x ∉ l.take j))
  case atStart => exact ⟨0, 0, Nat.zero_le _, by omega, rfl, rfl, Lib.hid (by simp)⟩
  case round =>
    obtain ⟨j, q, hj, hgh, rfl, rfl, HA⟩ := hrel
    have hbb : ∀ O : Obj, Below w.heap.size w ((w.alloc O).drewN q) := fun O => ⟨rfl, rfl, rfl, (al_new O).size, (al_new O).block⟩
    have HBB := Lib.hid hbb
    clear hbb
    by_cases hlt : j < n
    · have hjl : j < l.length := by rw [H.out.len]; exact hlt
      obtain ⟨b, o, rfl, a0, a1, a2⟩ := (H.out.at_.below (al_new (.cells #[.int .u8 x.k, .int .i64 x.r, .string x.x] 47))).get j hjl
      obtain ⟨⟨b0, b1, b2⟩, -, -⟩ := c3 (HN.out (.cells #[.int .u8 x.k, .int .i64 x.r, .string x.x] 47))
      have htk := at_take l j hjl
      have hmem := aget_mem hjl
      generalize aget l j = y at *
      have HTK := Lib.hid htk; have HMEM := Lib.hid hmem
      have hgd := HGD.out
      have hq := HEQ.out y x
      simp only [enc] at hq
      clear htk hmem hjl
      by_cases he : y = x
      · have hd : decide (y = x) = true := decide_eq_true he
        rw [hd] at hq
        have HD := Lib.hid he
        clear hd he
        go_wp2_with (fail)
        go_region_o
        clear hgd hq a0 a1 a2 b0 b1 b2
        go_wp2_with (fail)
        go_ret
        exact ⟨ret_bool (decide_eq_true (by rw [← HD.out]; exact HMEM.out)).symm, below_q (HBB.out _)⟩
      · have hd : decide (y = x) = false := decide_eq_false he
        rw [hd] at hq
        have HD := Lib.hid he
        clear hd he
        go_wp2_with (fail)
        go_region_o
        clear hgd hq a0 a1 a2 b0 b1 b2
        go_wp2_with (fail)
        go_roundg (n - (j + 1))
        case measure => omega
        case rel => exact ⟨j + 1, q + 1, by omega, by omega, by go_num, rfl, Lib.hid (by rw [HTK.out]; simp only [List.mem_append, List.mem_singleton, not_or]; exact ⟨HA.out, fun e => HD.out e.symm⟩)⟩
    · obtain rfl : j = n := by omega
      have hno : x ∉ l := by
        have := HA.out
        rw [List.take_of_length_le (by rw [H.out.len]; exact Nat.le_refl _)] at this
        exact this
      have HNO := Lib.hid hno
      clear hno
      go_wp2_with (fail)
      go_ret
      exact ⟨ret_bool (decide_eq_false HNO.out).symm, HBB.out _⟩
end Effect
end Go.Proofs.YtggabjmfdnfckaaGreatDoor
