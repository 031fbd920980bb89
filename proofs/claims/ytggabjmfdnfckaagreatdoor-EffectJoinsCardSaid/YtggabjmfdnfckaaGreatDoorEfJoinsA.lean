/- Rows of atoms, the document's way: which are too great, their union; are rows of numbers, of texts, equal. -/
import Derived.Test.YtggabjmfdnfckaaGreatDoorEfRWout
import Derived.Test.YtggabjmfdnfckaaGreatDoorEfRhos
namespace Go.Proofs.YtggabjmfdnfckaaGreatDoor
open Go.RowKit
set_option linter.unusedVariables false
set_option linter.unusedSimpArgs false
namespace Effect

/-- Rows that are read. -/
structure RdR (w : World) (n : Nat) (p : Option Addr) (rs : List (List At)) : Prop where
  len : rs.length = n
  at_ : RowsAt w p rs
  ok : ∀ r ∈ rs, ∀ x ∈ r, x.x.size ≤ maxLen
  nn : ∀ r ∈ rs, r.length ≤ maxLen
theorem RdR.below {w W : World} {n : Nat} {p : Option Addr} {rs : List (List At)} (h : RdR w n p rs) (hb : Below w.heap.size w W) : RdR W n p rs := ⟨h.len, h.at_.below hb, h.ok, h.nn⟩
theorem RdR.row {w : World} {n : Nat} {p : Option Addr} {rs : List (List At)} (h : RdR w n p rs) (i : Nat) (hi : i < rs.length) : ∃ b o q c m, p = some ⟨b, o, none⟩ ∧ w.cell? ⟨b, o + i, none⟩ = some (.slice q m c) ∧ Rd w m q (rget rs i) ∧ m ≤ maxLen := by
  obtain ⟨b, o, q, c, hp, h1, h2⟩ := h.at_.get i hi
  exact ⟨b, o, q, c, _, hp, h1, ⟨rfl, h2, h.ok _ (rget_mem hi)⟩, h.nn _ (rget_mem hi)⟩
def greatR (rs : List (List At)) : Bool := decide (10 < rs.length) || rs.any greatB
theorem rs_take (rs : List (List At)) (j : Nat) (hj : j < rs.length) : rs.take (j + 1) = rs.take j ++ [rget rs j] := by
  rw [List.take_add_one, rget_at hj]; rfl
set_option maxRecDepth 100000 in
set_option maxHeartbeats 6400000 in
theorem greatR_walk {n c : Nat} {p : Option Addr} {rs : List (List At)} {w : World} (h : RdR w n p rs) (hn : n ≤ maxLen) : Calls Tryz.prog 5 #[.slice p n c] w fun e w' => e = .returned (.bool (greatR rs)) ∧ w' = w := by
  have H := Lib.hid h
  clear h
  unfold maxLen at hn
  go_enter Tryz.func5, Tryz.ntmps5
  by_cases h10 : 10 < n
  · have HG := Lib.hid (show true = greatR rs by unfold greatR; rw [H.out.len, decide_eq_true h10]; rfl)
    go_wp2_with (fail)
    go_ret
    exact ⟨ret_bool HG.out, rfl⟩
  · go_wp2_with (fail)
    go_loopw [3] (fun i wr => ∃ j : Nat, j ≤ n ∧ i = .int .i64 (j : Int) ∧ Hid (wr = w) ∧ Hid ((rs.take j).any greatB = false)) (fun i _ => n - (intOf i).toNat)
    case atStart => exact ⟨0, Nat.zero_le _, rfl, Lib.hid rfl, Lib.hid (by simp)⟩
    case round =>
      obtain ⟨j, hj, rfl, HW, HA⟩ := hrel
      obtain rfl := HW.out
      clear HW
      by_cases hlt : j < n
      · have hjl : j < rs.length := by rw [H.out.len]; exact hlt
        obtain ⟨b, o, q, c', m, rfl, e0, hrd, hm⟩ := H.out.row j hjl
        have htk := rs_take rs j hjl
        have hmem := rget_mem hjl
        generalize rget rs j = r at *
        have HTK := Lib.hid htk; have HMEM := Lib.hid hmem
        have HG := Lib.hid (great_walk (c := c') hrd hm)
        clear htk hmem hjl hrd hm
        go_wp2_with (fail)
        refine HG.out.mono ?_
        rintro e w2 ⟨rfl, rfl⟩
        cases hg : greatB r
        · have HGR := Lib.hid hg
          clear hg
          go_wp2_with (fail)
          go_roundw
          case rel => exact ⟨j + 1, by omega, by go_num, Lib.hid (by trivial), Lib.hid (by rw [HTK.out, List.any_append, HA.out]; simp [HGR.out])⟩
          case measure => simp [intOf]; omega
        · have HGR := Lib.hid (show true = greatR rs by
            unfold greatR
            rw [show rs.any greatB = true from List.any_eq_true.2 ⟨r, HMEM.out, hg⟩]; simp)
          clear hg
          go_wp2_with (fail)
          go_ret
          exact ⟨ret_bool HGR.out, rfl⟩
      · obtain rfl : j = n := by omega
        have HGR := Lib.hid (show false = greatR rs by
          unfold greatR
          have := HA.out
          rw [List.take_of_length_le (by rw [H.out.len]; exact Nat.le_refl _)] at this
          rw [this, H.out.len, decide_eq_false h10]; rfl)
        go_wp2_with (fail)
        go_ret
        exact ⟨ret_bool HGR.out, rfl⟩
theorem greatR_no {rs : List (List At)} (h : greatR rs = false) : rs.length ≤ 10 ∧ ∀ r ∈ rs, r.length ≤ 100 ∧ ∀ x ∈ r, x.x.size ≤ 100 := by
  unfold greatR at h
  rw [Bool.or_eq_false_iff] at h
  refine ⟨by have := of_decide_eq_false h.1; omega, fun r hr => ?_⟩
  have := List.any_eq_false.1 h.2 r hr
  exact great_no (by simpa using this)
theorem flat_le : ∀ {rs : List (List At)}, (∀ r ∈ rs, r.length ≤ 100) → rs.flatten.length ≤ 100 * rs.length
  | [], _ => by simp
  | r :: rs, h => by
    have h1 := flat_le (rs := rs) fun r hr => h r (by simp [hr])
    have h2 := h r (by simp)
    rw [List.flatten_cons, List.length_append, List.length_cons]; omega
set_option maxRecDepth 100000 in
set_option maxHeartbeats 6400000 in
theorem refUnion_walk {n c : Nat} {p : Option Addr} {rs : List (List At)} {w : World} (h : RdR w n p rs) (hn : n ≤ 10) (hrs : ∀ r ∈ rs, r.length ≤ 100) : Calls Tryz.prog 7 #[.slice p n c] w fun e w' => ∃ a' m c', e = .returned (.slice a' m c') ∧ m ≤ 1000 ∧ Rd w' m a' (ofA rs.flatten) ∧ Below w.heap.size w w' := by
  have H := Lib.hid h; have HRS := Lib.hid hrs
  clear h hrs
  go_enter Tryz.func7, Tryz.ntmps7
  go_wp2_with (fail)
  go_loopw [3, 4, 5, 9, 17] (fun own _ _ i _ wr => ∃ (j m c1 : Nat) (a1 : Option Addr) (o : List At), j ≤ n ∧ m ≤ 100 * j ∧ i = .int .i64 (j : Int) ∧ own = .slice a1 m c1 ∧ Hid (m = o.length) ∧ Hid (o = (rs.take j).flatten.foldl putA []) ∧ Hid (∀ y ∈ o, y.x.size ≤ maxLen) ∧ Hid (Row w.heap.size wr (.slice a1 m c1) o) ∧ Hid (Below w.heap.size w wr)) (fun _ _ _ i _ _ => n - (intOf i).toNat)
  case atStart => exact ⟨0, 0, 0, some ⟨w.heap.size, 0, none⟩, [], Nat.zero_le _, Nat.zero_le _, rfl, rfl, Lib.hid rfl, Lib.hid (by simp), Lib.hid (fun y hy => by cases hy), Lib.hid (row_new (Nat.le_refl _)), Lib.hid (al_new _)⟩
  case round =>
    obtain ⟨j, m, c1, a1, o, hj, hmj, rfl, rfl, HM, HO, HOK, HRW, HS⟩ := hrel
    by_cases hlt : j < n
    · have hjl : j < rs.length := by rw [H.out.len]; exact hlt
      have HRD := Lib.hid fun W (hW : Below wr.heap.size wr W) => ((H.out.below HS.out).below hW).row j hjl
      obtain ⟨b, q, ar, cr, mr, rfl, e0, hrd, hmr⟩ := (H.out.below HS.out).row j hjl
      have hbl := World.block_lt_of_cell? wr _ e0
      have hm100 := HRS.out _ (rget_mem hjl)
      have htk := rs_take rs j hjl
      generalize rget rs j = r at *
      have hmr2 : mr ≤ 100 := by rw [hrd.len] at hm100; exact hm100
      have HTK := Lib.hid htk; have HR := Lib.hid hrd; have HE := Lib.hid e0; have HBL := Lib.hid hbl
      clear htk hjl hrd hm100 hbl HRD hmr
      generalize wr = wr0 at *
      go_wp2_with (fail)
      go_loopw [3, 5, 17] (fun own _ i wr => ∃ (t m2 c2 : Nat) (a2 : Option Addr) (o2 : List At), t ≤ mr ∧ m2 ≤ m + t ∧ i = .int .i64 (t : Int) ∧ own = .slice a2 m2 c2 ∧ Hid (m2 = o2.length) ∧ Hid (o2 = (r.take t).foldl putA o) ∧ Hid (∀ y ∈ o2, y.x.size ≤ maxLen) ∧ Hid (Row w.heap.size wr (.slice a2 m2 c2) o2) ∧ Hid (Below wr0.heap.size wr0 wr)) (fun _ _ i _ => mr - (intOf i).toNat)
      case atStart => exact ⟨0, m, c1, a1, o, Nat.zero_le _, Nat.le_refl _, rfl, rfl, HM, Lib.hid (by simp), HOK, HRW, Lib.hid (Below.refl _ _)⟩
      case round =>
        obtain ⟨t, m2, c2, a2, o2, ht, hm2, rfl, rfl, HM2, HO2, HOK2, HRW2, HS2⟩ := hrel
        have HSS := Lib.hid (below_then HS.out HS2.out HS.out.size)
        by_cases hlt2 : t < mr
        · have htl : t < r.length := by rw [HR.out.len]; exact hlt2
          obtain ⟨bx, ox, rfl, x0, x1, x2⟩ := (HR.out.below HS2.out).at_.get t htl
          have ee := (HS2.out.cell (p := ⟨b, q + j, none⟩) HBL.out).trans HE.out
          have hx := HR.out.ok _ (aget_mem htl)
          have htk2 := at_take r t htl
          generalize aget r t = x at *
          have HTK2 := Lib.hid htk2; have HX := Lib.hid hx
          have HP := Lib.hid (put_walk HRW2.out HSS.out.size HOK2.out hx (by omega))
          clear htk2 htl hx
          go_wp2_with (fail)
          refine HP.out.mono ?_
          rintro e w3 ⟨v, rfl, hr3, hb3⟩
          obtain ⟨a3, c3', rfl⟩ := hr3.slice
          have HR3 := Lib.hid hr3; have HS3 := Lib.hid (below_then HS2.out hb3 HS2.out.size)
          have hle := putA_le o2 x
          rw [← HM2.out] at hle
          generalize hm3 : (putA o2 x).length = m3 at *
          have HM3 := Lib.hid hm3
          clear hr3 hb3 hm3
          go_wp2_with (fail)
          go_roundw
          case rel => exact ⟨t + 1, m3, c3', a3, putA o2 x, by omega, by omega, by go_num, rfl, Lib.hid HM3.out.symm, Lib.hid (by rw [HTK2.out, List.foldl_append, ← HO2.out]; rfl), Lib.hid (putA_ok HOK2.out HX.out), HR3, HS3⟩
          case measure => simp [intOf]; omega
        · obtain rfl : t = mr := by omega
          have ho := HO2.out
          rw [List.take_of_length_le (by rw [HR.out.len]; exact Nat.le_refl _)] at ho
          have HO3 := Lib.hid ho
          clear ho
          go_wp2_with (fail)
          go_roundw
          case rel => exact ⟨j + 1, m2, c2, a2, o2, by omega, by omega, by go_num, rfl, HM2, Lib.hid (by rw [HTK.out, List.flatten_append, List.foldl_append, ← HO.out, HO3.out]; simp), HOK2, HRW2, HSS⟩
          case measure => simp [intOf]; omega
    · obtain rfl : j = n := by omega
      have ho := HO.out
      rw [List.take_of_length_le (by rw [H.out.len]; exact Nat.le_refl _)] at ho
      have HOF := Lib.hid (show o = ofA rs.flatten from ho)
      clear ho
      go_wp2_with (fail)
      go_ret
      exact ⟨a1, m, c1, rfl, by omega, by rw [← HOF.out]; exact Rd.of_row HRW.out HOK.out, HS.out⟩
end Effect
end Go.Proofs.YtggabjmfdnfckaaGreatDoor
