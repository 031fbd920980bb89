/- The document's: is it an atom, is it in a row, is one within another one. -/
import Derived.Test.YtggabjmfdnfckaaDoorEfAwake
import Derived.Shelf.RegionOpenPlain
namespace Go.Proofs.YtggabjmfdnfckaaDoor
open Go.RowKit
set_option linter.unusedVariables false
set_option linter.unusedSimpArgs false
namespace Effect

set_option maxHeartbeats 3200000 in
theorem refAtom_walk (a : At) (w : World) (hx : a.x.size ≤ maxLen) : Calls Tryd.prog 9 #[.agg #[.int .u8 a.k, .int .i64 a.r, .string a.x]] w fun e w' => e = .returned (.bool (atomB a)) ∧ Below w.heap.size w w' := by
  have hat : ∀ b, atomB a = b → atomB a = b := fun b h => h
  have hdef : atomB a = atomB a := rfl
  have HB := Lib.hid (fun O => al_new (W := w) O)
  by_cases h3 : a.k = 3
  · by_cases hr : a.r = 0
    · have ha : Words.exnB a.x = atomB a := by unfold atomB; rw [if_pos h3, hr]; simp
      have hex := fun W => Words.refExn_walk a.x W hx
      obtain ⟨k, r, x⟩ := a
      simp only at h3 hr ha hex
      subst h3 hr
      have HE := Lib.hid hex; have HA := Lib.hid ha
      clear hex hat hdef hx ha
      go_enter Tryd.func9, Tryd.ntmps9
      go_wp2_with (fail)
      refine (HE.out _).mono ?_
      rintro e w1 ⟨rfl, hb1⟩
      have H1 := Lib.hid (below_then (HB.out _) hb1 (by simp))
      clear hb1
      go_wp2_with (fail)
      go_ret
      exact ⟨ret_bool HA.out, H1.out⟩
    · have ha : false = atomB a := by unfold atomB; rw [if_pos h3, decide_eq_false hr]; simp
      obtain ⟨k, r, x⟩ := a
      simp only at h3 hr ha
      subst h3
      have hr1 : (r == 0) = false := by simpa using hr
      have HA := Lib.hid ha
      clear hat hdef hx ha hr
      go_enter Tryd.func9, Tryd.ntmps9
      go_wp2_with (fail)
      go_ret
      exact ⟨ret_bool HA.out, HB.out _⟩
  · by_cases h12 : a.k = 1 ∨ a.k = 2
    · by_cases hr : a.r < 0
      · have ha : false = atomB a := by unfold atomB; rw [if_neg h3, decide_eq_false (show ¬ 0 ≤ a.r by omega)]; simp
        obtain ⟨k, r, x⟩ := a
        simp only at h12 hr ha
        have HA := Lib.hid ha
        clear hat hdef hx ha h3
        rcases h12 with rfl | rfl
        all_goals
          go_enter Tryd.func9, Tryd.ntmps9
          go_wp2_with (fail)
          go_ret
          exact ⟨ret_bool HA.out, HB.out _⟩
      · have ha : a.x.toList.isEmpty = atomB a := by unfold atomB; rw [if_neg h3, ← emp a.x, decide_eq_true (show 0 ≤ a.r by omega)]; rcases h12 with h | h <;> rw [h] <;> simp
        obtain ⟨k, r, x⟩ := a
        simp only at h12 hr ha
        have HA := Lib.hid ha
        clear hat hdef hx ha h3
        rcases h12 with rfl | rfl
        all_goals
          go_enter Tryd.func9, Tryd.ntmps9
          go_wp2_with (fail)
          go_ret
          exact ⟨ret_bool HA.out, HB.out _⟩
    · have ha : false = atomB a := by unfold atomB; rw [if_neg h3, decide_eq_false (show ¬ a.k = 1 by omega), decide_eq_false (show ¬ a.k = 2 by omega)]; rfl
      obtain ⟨k, r, x⟩ := a
      simp only at h12 h3 ha
      have h1' : (k == 1) = false := by simp; omega
      have h2' : (k == 2) = false := by simp; omega
      have h3' : (k == 3) = false := by simp; omega
      have HA := Lib.hid ha
      clear hat hdef hx ha h3 h12
      go_enter Tryd.func9, Tryd.ntmps9
      go_wp2_with (fail)
      go_ret
      exact ⟨ret_bool HA.out, HB.out _⟩
theorem below_q {B : Nat} {w W : World} (h : Below B w W) : Below B w W.drew := ⟨h.os, h.tape, h.output, h.size, h.block⟩
set_option maxRecDepth 100000 in
set_option maxHeartbeats 6400000 in
theorem in_walk {n c : Nat} {a : Option Addr} {l : List At} {w : World} (h : Rd w n a l) (x : At) (hn : n ≤ 100000) : Calls Tryd.prog 41 #[.slice a n c, .agg #[.int .u8 x.k, .int .i64 x.r, .string x.x]] w fun e w' => e = .returned (.bool (decide (x ∈ l))) ∧ Below w.heap.size w w' := by
  have mixed : Tryd.prog.follows .mixedOrders = true := by kernel_rfl
  have HEQ := Lib.hid eqIn
  have HGD := Lib.hid (show ∀ (op : BinOp) (u v : Operand) (a b : At) (w : World), (eqGuard op 27 u v (.agg #[.int .u8 a.k, .int .i64 a.r, .string a.x]) (.agg #[.int .u8 b.k, .int .i64 b.r, .string b.x])).run Tryd.prog w = .ok () w from fun op u v a b w => eqAt.2 op u v a b w)
  have H := Lib.hid h
  have HB := Lib.hid (fun O => al_new (W := w) O)
  clear h
  go_enter Tryd.func41, Tryd.ntmps41
  go_wp2_with (fail)
  have HN := Lib.hid fun O => heap_alloc_new w O
  go_loopg [5, 8] n (fun gh _ i wr => ∃ j q : Nat, j ≤ n ∧ n - j ≤ gh ∧ i = .int .i64 (j : Int) ∧ wr = (w.alloc (.cells #[.int .u8 x.k, .int .i64 x.r, .string x.x] 27)).drewN q ∧ Hid (x ∉ l.take j))
  case atStart => exact ⟨0, 0, Nat.zero_le _, by omega, rfl, rfl, Lib.hid (by simp)⟩
  case round =>
    obtain ⟨j, q, hj, hgh, rfl, rfl, HA⟩ := hrel
    have hbb : ∀ O : Obj, Below w.heap.size w ((w.alloc O).drewN q) := fun O => ⟨rfl, rfl, rfl, (al_new O).size, (al_new O).block⟩
    have HBB := Lib.hid hbb
    clear hbb
    by_cases hlt : j < n
    · have hjl : j < l.length := by rw [H.out.len]; exact hlt
      obtain ⟨b, o, rfl, a0, a1, a2⟩ := (H.out.at_.below (al_new (.cells #[.int .u8 x.k, .int .i64 x.r, .string x.x] 27))).get j hjl
      obtain ⟨⟨b0, b1, b2⟩, -, -⟩ := c3 (HN.out (.cells #[.int .u8 x.k, .int .i64 x.r, .string x.x] 27))
      have htk := at_take l j hjl
      have hmem := aget_mem hjl
      generalize aget l j = y at *
      have HTK := Lib.hid htk; have HMEM := Lib.hid hmem
      have hgd := HGD.out
      have hq := HEQ.out y x
      simp only [enc] at hq
      clear htk hmem hjl
      by_cases he : y = x
      · have hd : decide (y = x) = true := decide_eq_true he
        rw [hd] at hq
        have HD := Lib.hid he
        clear hd he
        go_wp2_with (fail)
        go_region_o
        clear hgd hq a0 a1 a2 b0 b1 b2
        go_wp2_with (fail)
        go_ret
        exact ⟨ret_bool (decide_eq_true (by rw [← HD.out]; exact HMEM.out)).symm, below_q (HBB.out _)⟩
      · have hd : decide (y = x) = false := decide_eq_false he
        rw [hd] at hq
        have HD := Lib.hid he
        clear hd he
        go_wp2_with (fail)
        go_region_o
        clear hgd hq a0 a1 a2 b0 b1 b2
        go_wp2_with (fail)
        go_roundg (n - (j + 1))
        case measure => omega
        case rel => exact ⟨j + 1, q + 1, by omega, by omega, by go_num, rfl, Lib.hid (by rw [HTK.out]; simp only [List.mem_append, List.mem_singleton, not_or]; exact ⟨HA.out, fun e => HD.out e.symm⟩)⟩
    · obtain rfl : j = n := by omega
      have hno : x ∉ l := by
        have := HA.out
        rw [List.take_of_length_le (by rw [H.out.len]; exact Nat.le_refl _)] at this
        exact this
      have HNO := Lib.hid hno
      clear hno
      go_wp2_with (fail)
      go_ret
      exact ⟨ret_bool (decide_eq_false HNO.out).symm, HBB.out _⟩
def withinB (l k : List At) : Bool := l.all fun x => !atomB x || decide (x ∈ k)
set_option maxRecDepth 100000 in
set_option maxHeartbeats 6400000 in
theorem refWithin_walk {n c m d : Nat} {a b : Option Addr} {l k : List At} {w : World} (h : Rd w n a l) (h2 : Rd w m b k) (hn : n ≤ 100000) (hm : m ≤ 100000) : Calls Tryd.prog 18 #[.slice a n c, .slice b m d] w fun e w' => e = .returned (.bool (withinB l k)) ∧ Below w.heap.size w w' := by
  have H := Lib.hid h; have H2 := Lib.hid h2
  clear h h2
  go_enter Tryd.func18, Tryd.ntmps18
  go_wp2_with (fail)
  go_loopw [5, 8] (fun _ i wr => ∃ j : Nat, j ≤ n ∧ i = .int .i64 (j : Int) ∧ Hid (Below w.heap.size w wr) ∧ Hid (withinB (l.take j) k = true)) (fun _ i _ => n - (intOf i).toNat)
  case atStart => exact ⟨0, Nat.zero_le _, rfl, Lib.hid (Below.refl _ _), Lib.hid (by simp [withinB])⟩
  case round =>
    obtain ⟨j, hj, rfl, HS, HA⟩ := hrel
    by_cases hlt : j < n
    · have hjl : j < l.length := by rw [H.out.len]; exact hlt
      obtain ⟨b1, o, rfl, a0, a1, a2⟩ := (H.out.at_.below HS.out).get j hjl
      have hx := H.out.ok _ (aget_mem hjl)
      have htk := at_take l j hjl
      have hmem := aget_mem hjl
      have hlt0 : b1 < wr.heap.size := World.block_lt_of_cell? wr _ a0
      generalize aget l j = x at *
      have HTK := Lib.hid htk; have HMEM := Lib.hid hmem
      have HAT := Lib.hid (refAtom_walk x wr hx)
      have HIN := Lib.hid fun (W : World) (hW : Below wr.heap.size wr W) => in_walk (c := d) ((H2.out.below HS.out).below hW) x hm
      have HC := Lib.hid (And.intro a0 (And.intro a1 a2))
      clear htk hmem hjl hx
      go_wp2_with (fail)
      refine HAT.out.mono ?_
      rintro e w1 ⟨rfl, hb1⟩
      obtain ⟨a0, a1, a2⟩ := HC.out
      have a0 := (hb1.cell (p := ⟨b1, _, none⟩) hlt0).trans a0
      have a1 := (hb1.cell (p := ⟨b1, _, none⟩) hlt0).trans a1
      have a2 := (hb1.cell (p := ⟨b1, _, none⟩) hlt0).trans a2
      have HI := Lib.hid (HIN.out w1 hb1)
      have HB1 := Lib.hid (below_then HS.out hb1 HS.out.size)
      clear hb1
      cases hat : atomB x
      · have HAT2 := Lib.hid hat
        clear hat
        go_wp2_with (fail)
        go_roundw
        case rel => exact ⟨j + 1, by omega, by go_num, HB1, Lib.hid (by rw [HTK.out]; unfold withinB; rw [List.all_append]; have := HA.out; unfold withinB at this; rw [this]; simp [HAT2.out])⟩
        case measure => simp [intOf]; omega
      · have HAT2 := Lib.hid hat
        clear hat
        go_wp2_with (fail)
        refine HI.out.mono ?_
        rintro e w2 ⟨rfl, hb2⟩
        have HB2 := Lib.hid (below_then HB1.out hb2 HB1.out.size)
        clear hb2
        by_cases hin : x ∈ k
        · have HIN2 := Lib.hid hin
          rw [decide_eq_true hin]
          clear hin
          go_wp2_with (fail)
          go_roundw
          case rel => exact ⟨j + 1, by omega, by go_num, HB2, Lib.hid (by rw [HTK.out]; unfold withinB; rw [List.all_append]; have := HA.out; unfold withinB at this; rw [this]; simp [HIN2.out])⟩
          case measure => simp [intOf]; omega
        · have HIN2 := Lib.hid hin
          rw [decide_eq_false hin]
          clear hin
          go_wp2_with (fail)
          go_ret
          refine ⟨ret_bool ?_, HB2.out⟩
          symm
          unfold withinB
          rw [Bool.eq_false_iff]
          intro hall
          have := List.all_eq_true.1 hall x HMEM.out
          rw [HAT2.out, decide_eq_false HIN2.out] at this
          cases this
    · obtain rfl : j = n := by omega
      have hall := HA.out
      rw [List.take_of_length_le (by rw [H.out.len]; exact Nat.le_refl _)] at hall
      have HALL := Lib.hid hall
      clear hall
      go_wp2_with (fail)
      go_ret
      exact ⟨ret_bool HALL.out.symm, HS.out⟩
end Effect
end Go.Proofs.YtggabjmfdnfckaaDoor
