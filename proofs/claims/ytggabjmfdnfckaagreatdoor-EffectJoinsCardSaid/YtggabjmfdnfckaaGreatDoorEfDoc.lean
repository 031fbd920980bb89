/- The document's Of, Equal and May. -/
import Derived.Test.YtggabjmfdnfckaaGreatDoorEfPut
namespace Go.Proofs.YtggabjmfdnfckaaGreatDoor
open Go.RowKit
set_option linter.unusedVariables false
set_option linter.unusedSimpArgs false
namespace Effect

theorem putA_le (e : List At) (x : At) : (putA e x).length ≤ e.length + 1 := by
  unfold putA
  split
  · have h3 : ∀ y : List At, (insA x y).length = y.length + 1 := fun y => by
      induction y with
      | nil => rfl
      | cons z y ih2 => unfold insA; split <;> simp [ih2]
    rw [h3]; exact Nat.le_refl _
  · omega
theorem putA_ok {e : List At} {x : At} {n : Nat} (h : ∀ y ∈ e, y.x.size ≤ n) (hx : x.x.size ≤ n) : ∀ y ∈ putA e x, y.x.size ≤ n := fun y hy => by
  rcases (mem_put e x y).1 hy with h1 | ⟨rfl, _⟩
  · exact h y h1
  · exact hx
set_option maxRecDepth 100000 in
set_option maxHeartbeats 6400000 in
theorem refOf_walk {n c : Nat} {a : Option Addr} {l : List At} {w : World} (h : Rd w n a l) (hn : n ≤ 10000) : Calls Tryz.prog 33 #[.slice a n c] w fun e w' => ∃ a' m c', e = .returned (.slice a' m c') ∧ m ≤ n ∧ Row w.heap.size w' (.slice a' m c') (ofA l) ∧ Rd w' m a' (ofA l) ∧ Below w.heap.size w w' := by
  have H := Lib.hid h
  clear h
  go_enter Tryz.func33, Tryz.ntmps33
  go_wp2_with (fail)
  go_loopw [3, 4, 8] (fun own _ i wr => ∃ (j m c1 : Nat) (a1 : Option Addr) (o : List At), j ≤ n ∧ m ≤ j ∧ i = .int .i64 (j : Int) ∧ own = .slice a1 m c1 ∧ Hid (m = o.length) ∧ Hid (o = (l.take j).foldl putA []) ∧ Hid (∀ y ∈ o, y.x.size ≤ maxLen) ∧ Hid (Row w.heap.size wr (.slice a1 m c1) o) ∧ Hid (Below w.heap.size w wr)) (fun _ _ i _ => n - (intOf i).toNat)
  case atStart => exact ⟨0, 0, 0, some ⟨w.heap.size, 0, none⟩, [], Nat.zero_le _, Nat.le_refl _, rfl, rfl, Lib.hid rfl, Lib.hid (by simp), Lib.hid (fun y hy => by cases hy), Lib.hid (row_new (Nat.le_refl _)), Lib.hid (al_new _)⟩
  case round =>
    obtain ⟨j, m, c1, a1, o, hj, hmj, rfl, rfl, HM, HO, HOK, HRW, HS⟩ := hrel
    by_cases hlt : j < n
    · have hjl : j < l.length := by rw [H.out.len]; exact hlt
      obtain ⟨b, p, rfl, e0, e1, e2⟩ := (H.out.at_.below HS.out).get j hjl
      have hx := H.out.ok _ (aget_mem hjl)
      have htk := at_take l j hjl
      generalize aget l j = x at *
      have HTK := Lib.hid htk; have HX := Lib.hid hx
      have HP := Lib.hid (put_walk HRW.out HS.out.size HOK.out hx (by omega))
      clear htk hjl hx
      go_wp2_with (fail)
      refine HP.out.mono ?_
      rintro e w2 ⟨v, rfl, hr, hb⟩
      obtain ⟨a2, c2, rfl⟩ := hr.slice
      have HR2 := Lib.hid hr; have HS2 := Lib.hid (below_then HS.out hb HS.out.size)
      have hle := putA_le o x
      rw [← HM.out] at hle
      generalize hm2 : (putA o x).length = m2 at *
      have HM2 := Lib.hid hm2
      clear hr hb hm2
      go_wp2_with (fail)
      go_roundw
      case rel => exact ⟨j + 1, m2, c2, a2, putA o x, by omega, by omega, by go_num, rfl, Lib.hid HM2.out.symm, Lib.hid (by rw [HTK.out, List.foldl_append, ← HO.out]; rfl), Lib.hid (putA_ok HOK.out HX.out), HR2, HS2⟩
      case measure => simp [intOf]; omega
    · obtain rfl : j = n := by omega
      have ho := HO.out
      rw [List.take_of_length_le (by rw [H.out.len]; exact Nat.le_refl _)] at ho
      have HOF := Lib.hid (show o = ofA l from ho)
      clear ho
      go_wp2_with (fail)
      go_ret
      refine ⟨a1, m, c1, rfl, hmj, by rw [← HOF.out]; exact HRW.out, by rw [← HOF.out]; exact Rd.of_row HRW.out HOK.out, HS.out⟩
set_option maxRecDepth 100000 in
set_option maxHeartbeats 6400000 in
theorem refEqual_walk {n c m d : Nat} {a b : Option Addr} {l k : List At} {w : World} (h : Rd w n a l) (h2 : Rd w m b k) (hn : n ≤ 100000) (hm : m ≤ 100000) : Calls Tryz.prog 8 #[.slice a n c, .slice b m d] w fun e w' => e = .returned (.bool (decide (l = k))) ∧ Below w.heap.size w w' := by
  have mixed : Tryz.prog.follows .mixedOrders = true := by kernel_rfl
  have HEQ := Lib.hid eqIn
  have HGD := Lib.hid (show ∀ (op : BinOp) (u v : Operand) (a b : At) (w : World), (eqGuard op 47 u v (.agg #[.int .u8 a.k, .int .i64 a.r, .string a.x]) (.agg #[.int .u8 b.k, .int .i64 b.r, .string b.x])).run Tryz.prog w = .ok () w from fun op u v a b w => eqAt.2 op u v a b w)
  have H := Lib.hid h; have H2 := Lib.hid h2
  clear h h2
  go_enter Tryz.func8, Tryz.ntmps8
  by_cases hnm : n = m
  · subst hnm
    go_wp2_with (fail)
    go_loopg [5, 13] n (fun gh _ i wr => ∃ j q : Nat, j ≤ n ∧ n - j ≤ gh ∧ i = .int .i64 (j : Int) ∧ wr = w.drewN q ∧ Hid (l.take j = k.take j))
    case atStart => exact ⟨0, 0, Nat.zero_le _, by omega, rfl, rfl, Lib.hid (by simp)⟩
    case round =>
      obtain ⟨j, q, hj, hgh, rfl, rfl, HA⟩ := hrel
      have hbb : Below w.heap.size w (w.drewN q) := ⟨rfl, rfl, rfl, Nat.le_refl _, fun _ _ => rfl⟩
      have HBB := Lib.hid hbb
      clear hbb
      by_cases hlt : j < n
      · have hjl : j < l.length := by rw [H.out.len]; exact hlt
        have hjk : j < k.length := by rw [H2.out.len]; exact hlt
        obtain ⟨b1, o1, rfl, a0, a1, a2⟩ := H.out.at_.get j hjl
        obtain ⟨b2, o2, rfl, c0, c1, c2⟩ := H2.out.at_.get j hjk
        have htk := at_take l j hjl
        have htk2 := at_take k j hjk
        have hg1 := aget_at hjl
        have hg2 := aget_at hjk
        generalize aget l j = x at *
        generalize aget k j = y at *
        have HTK := Lib.hid htk; have HTK2 := Lib.hid htk2; have HG1 := Lib.hid hg1; have HG2 := Lib.hid hg2
        have hgd := HGD.out
        have hq := HEQ.out x y
        simp only [enc] at hq
        clear htk htk2 hg1 hg2 hjl hjk
        by_cases he : x = y
        · have hd : decide (x = y) = true := decide_eq_true he
          rw [hd] at hq
          have HD := Lib.hid he
          clear hd he
          go_wp2_with (fail)
          go_region_o
          clear hgd hq a0 a1 a2 c0 c1 c2
          go_wp2_with (fail)
          go_roundg (n - (j + 1))
          case measure => omega
          case rel => exact ⟨j + 1, q + 1, by omega, by omega, by go_num, rfl, Lib.hid (by rw [HTK.out, HTK2.out, HA.out, HD.out])⟩
        · have hd : decide (x = y) = false := decide_eq_false he
          rw [hd] at hq
          have HD := Lib.hid he
          clear hd he
          go_wp2_with (fail)
          go_region_o
          clear hgd hq a0 a1 a2 c0 c1 c2
          go_wp2_with (fail)
          go_ret
          refine ⟨ret_bool (decide_eq_false fun e => HD.out ?_).symm, below_q HBB.out⟩
          have h1 := HG1.out
          rw [e, HG2.out] at h1
          exact (Option.some.inj h1).symm
      · obtain rfl : j = n := by omega
        have ha := HA.out
        rw [List.take_of_length_le (by rw [H.out.len]; exact Nat.le_refl _), List.take_of_length_le (by rw [H2.out.len]; exact Nat.le_refl _)] at ha
        have HE := Lib.hid ha
        clear ha
        go_wp2_with (fail)
        go_ret
        exact ⟨ret_bool (decide_eq_true HE.out).symm, HBB.out⟩
  · have HNM := Lib.hid hnm
    go_wp2_with (fail)
    go_ret
    exact ⟨ret_bool (decide_eq_false fun e => HNM.out (by rw [← H.out.len, ← H2.out.len, e])).symm, Below.refl _ _⟩
end Effect
end Go.Proofs.YtggabjmfdnfckaaGreatDoor
