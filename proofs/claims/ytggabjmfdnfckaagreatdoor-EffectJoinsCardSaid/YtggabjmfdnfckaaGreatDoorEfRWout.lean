/- The document's Without and Handled. -/
import Derived.Test.YtggabjmfdnfckaaGreatDoorEfExns
import Derived.Shelf.RegionOpenPlain
namespace Go.Proofs.YtggabjmfdnfckaaGreatDoor
open Go.RowKit
set_option linter.unusedVariables false
set_option linter.unusedSimpArgs false
namespace Effect

def pick1 (s : At → Bool) (o : List At) (x : At) : List At := if s x = true then putA o x else o
theorem pick_of (s : At → Bool) (l : List At) : l.foldl (pick1 s) [] = (ofA l).filter s := by
  have key : ∀ (l o : List At), l.foldl (pick1 s) o = (l.filter s).foldl putA o := fun l => by
    induction l with
    | nil => intro o; rfl
    | cons x l ih =>
      intro o
      rw [List.foldl_cons, ih]
      unfold pick1
      cases hx : s x with
      | true => rw [List.filter_cons_of_pos hx]; rfl
      | false => rw [List.filter_cons_of_neg (by rw [hx]; simp)]; rfl
  rw [key l []]
  show ofA (l.filter s) = _
  symm
  refine of_uniq (List.Pairwise.filter _ (up_of l)) fun b => ?_
  rw [List.mem_filter, mem_of, List.mem_filter]
  exact ⟨fun h => ⟨⟨h.1.1, h.2⟩, h.1.2⟩, fun h => ⟨⟨h.1.1, h.2⟩, h.1.2⟩⟩
set_option maxRecDepth 100000 in
set_option maxHeartbeats 12800000 in
theorem refWithout_walk {n c nk ck : Nat} {a ak : Option Addr} {l : List At} {k : List Int} {w : World} (h : Rd w n a l) (hk : RdI w nk ak k) (hn : n ≤ 10000) (hnk : nk ≤ 10000) : Calls Tryz.prog 19 #[.slice a n c, .slice ak nk ck] w fun e w' => ∃ a' m c', e = .returned (.slice a' m c') ∧ m ≤ n ∧ Rd w' m a' ((ofA l).filter (stayR k)) ∧ Below w.heap.size w w' := by
  have H := Lib.hid h; have HK := Lib.hid hk
  clear h hk
  go_enter Tryz.func19, Tryz.ntmps19
  go_wp2_with (fail)
  go_loopw [5, 6, 10] (fun own _ i wr => ∃ (j m c1 : Nat) (a1 : Option Addr) (o : List At), j ≤ n ∧ m ≤ j ∧ i = .int .i64 (j : Int) ∧ own = .slice a1 m c1 ∧ Hid (m = o.length) ∧ Hid (o = (l.take j).foldl (pick1 (stayR k)) []) ∧ Hid (∀ y ∈ o, y.x.size ≤ maxLen) ∧ Hid (Row w.heap.size wr (.slice a1 m c1) o) ∧ Hid (Below w.heap.size w wr)) (fun _ _ i _ => n - (intOf i).toNat)
  case atStart => exact ⟨0, 0, 0, some ⟨w.heap.size, 0, none⟩, [], Nat.zero_le _, Nat.le_refl _, rfl, rfl, Lib.hid rfl, Lib.hid (by simp), Lib.hid (fun y hy => by cases hy), Lib.hid (row_new (Nat.le_refl _)), Lib.hid (al_new _)⟩
  case round =>
    obtain ⟨j, m, c1, a1, o, hj, hmj, rfl, rfl, HM, HO, HOK, HRW, HS⟩ := hrel
    by_cases hlt : j < n
    · have hjl : j < l.length := by rw [H.out.len]; exact hlt
      obtain ⟨b, p, rfl, e0, e1, e2⟩ := (H.out.at_.below HS.out).get j hjl
      have hx := H.out.ok _ (aget_mem hjl)
      have htk := at_take l j hjl
      generalize aget l j = x at *
      have HTK := Lib.hid htk; have HX := Lib.hid hx
      have HC := Lib.hid (refInts_walk (c := ck) (HK.out.below HS.out) (by omega) x.r)
      have HP := Lib.hid (put_walk HRW.out HS.out.size HOK.out hx (by omega))
      have hstay : stayR k x = !(decide (x.k ≠ 3) && k.contains x.r) := rfl
      have HST0 := Lib.hid hstay
      clear htk hjl hx hstay
      by_cases hk3 : x.k = 3
      · have HST := Lib.hid (show stayR k x = true by rw [HST0.out, show decide (x.k ≠ 3) = false from decide_eq_false fun e => e hk3]; rfl)
        have hkk : (x.k == 3) = true := by simpa using hk3
        clear hk3
        go_wp2_with (fail)
        refine HP.out.mono ?_
        rintro e w3 ⟨v, rfl, hr, hb3⟩
        obtain ⟨a2, c2, rfl⟩ := hr.slice
        have HR3 := Lib.hid hr; have HS3 := Lib.hid (below_then HS.out hb3 HS.out.size)
        have hle := putA_le o x
        rw [← HM.out] at hle
        generalize hm2 : (putA o x).length = m2 at *
        have HM2 := Lib.hid hm2
        clear hr hb3 hm2
        go_wp2_with (fail)
        go_roundw
        case rel => exact ⟨j + 1, m2, c2, a2, putA o x, by omega, by omega, by go_num, rfl, Lib.hid HM2.out.symm, Lib.hid (by rw [HTK.out, List.foldl_append, ← HO.out]; exact (show pick1 (stayR k) o x = putA o x by unfold pick1; rw [if_pos HST.out]).symm), Lib.hid (putA_ok HOK.out HX.out), HR3, HS3⟩
        case measure => simp [intOf]; omega
      · have hkk : (x.k == 3) = false := by simpa using hk3
        have hcs : k.contains x.r = !stayR k x := by rw [HST0.out, show decide (x.k ≠ 3) = true from decide_eq_true hk3]; simp
        rw [hcs] at HC
        clear hk3 hcs
        go_wp2_with (fail)
        refine HC.out.mono ?_
        rintro e w3 ⟨rfl, rfl⟩
        cases hp : stayR k x
        · have HST := Lib.hid hp
          clear hp
          simp only [Bool.not_false, Bool.not_true]
          go_wp2_with (fail)
          go_roundw
          case rel => exact ⟨j + 1, m, c1, a1, o, by omega, by omega, by go_num, rfl, HM, Lib.hid (by rw [HTK.out, List.foldl_append, ← HO.out]; exact (show pick1 (stayR k) o x = o by unfold pick1; rw [if_neg (by rw [HST.out]; simp)]).symm), HOK, HRW, HS⟩
          case measure => simp [intOf]; omega
        · have HST := Lib.hid hp
          clear hp
          simp only [Bool.not_false, Bool.not_true]
          go_wp2_with (fail)
          refine HP.out.mono ?_
          rintro e w4 ⟨v, rfl, hr, hb3⟩
          obtain ⟨a2, c2, rfl⟩ := hr.slice
          have HR3 := Lib.hid hr; have HS3 := Lib.hid (below_then HS.out hb3 HS.out.size)
          have hle := putA_le o x
          rw [← HM.out] at hle
          generalize hm2 : (putA o x).length = m2 at *
          have HM2 := Lib.hid hm2
          clear hr hb3 hm2
          go_wp2_with (fail)
          go_roundw
          case rel => exact ⟨j + 1, m2, c2, a2, putA o x, by omega, by omega, by go_num, rfl, Lib.hid HM2.out.symm, Lib.hid (by rw [HTK.out, List.foldl_append, ← HO.out]; exact (show pick1 (stayR k) o x = putA o x by unfold pick1; rw [if_pos HST.out]).symm), Lib.hid (putA_ok HOK.out HX.out), HR3, HS3⟩
          case measure => simp [intOf]; omega
    · obtain rfl : j = n := by omega
      have ho := HO.out
      rw [List.take_of_length_le (by rw [H.out.len]; exact Nat.le_refl _), pick_of] at ho
      have HOF := Lib.hid ho
      clear ho
      go_wp2_with (fail)
      go_ret
      refine ⟨a1, m, c1, rfl, hmj, by rw [← HOF.out]; exact Rd.of_row HRW.out HOK.out, HS.out⟩
theorem strs_get {w : World} {n : Nat} {p : Option Addr} {l : List ByteArray} (h : RdS w n p l) (i : Nat) (hi : i < l.length) : ∃ b o, p = some ⟨b, o, none⟩ ∧ w.cell? ⟨b, o + i, none⟩ = some (.string (l.getD i ByteArray.empty)) := by
  rcases h.at_ with rfl | ⟨b, o, hp, hc⟩
  · simp at hi
  · exact ⟨b, o, hp, hc i hi⟩
theorem strs_take (l : List ByteArray) (i : Nat) (hi : i < l.length) : l.take (i + 1) = l.take i ++ [l.getD i ByteArray.empty] := by
  rw [List.take_add_one, List.getD_eq_getElem?_getD, List.getElem?_eq_getElem hi]; rfl
/-- Does an exception go? -/
def goesB (x : At) (l : List ByteArray) : Bool := decide (x.k = 3) && Lib.containsS l x.x
theorem goes_stay (x : At) (l : List ByteArray) : goesB x l = !stayE l x := by
  unfold goesB stayE
  rw [Bool.not_not]
theorem cs_snoc (l : List ByteArray) (y x : ByteArray) : Lib.containsS (l ++ [y]) x = true ↔ Lib.containsS l x = true ∨ y = x := by
  rw [Lib.containsS_iff, Lib.containsS_iff, List.mem_append, List.mem_singleton]
  exact ⟨fun h => h.elim .inl fun h => .inr h.symm, fun h => h.elim .inl fun h => .inr h.symm⟩
theorem cs_nil (x : ByteArray) : Lib.containsS [] x = false := by
  rw [Bool.eq_false_iff]; intro h; rw [Lib.containsS_iff] at h; cases h
set_option maxRecDepth 100000 in
set_option maxHeartbeats 12800000 in
theorem refHandled_walk {n c nk ck : Nat} {a ak : Option Addr} {l : List At} {k : List ByteArray} {w : World} (h : Rd w n a l) (hk : RdS w nk ak k) (hn : n ≤ 10000) (hnk : nk ≤ 10000) : Calls Tryz.prog 20 #[.slice a n c, .slice ak nk ck] w fun e w' => ∃ a' m c', e = .returned (.slice a' m c') ∧ m ≤ n ∧ Rd w' m a' ((ofA l).filter (stayE k)) ∧ Below w.heap.size w w' := by
  have mixed : Tryz.prog.follows .mixedOrders = true := by kernel_rfl
  have H := Lib.hid h; have HK := Lib.hid hk
  clear h hk
  go_enter Tryz.func20, Tryz.ntmps20
  go_wp2_with (fail)
  go_loopw [5, 6, 7, 8, 12, 17] (fun own _ _ _ i _ wr => ∃ (j m c1 : Nat) (a1 : Option Addr) (o : List At), j ≤ n ∧ m ≤ j ∧ i = .int .i64 (j : Int) ∧ own = .slice a1 m c1 ∧ Hid (m = o.length) ∧ Hid (o = (l.take j).foldl (pick1 (stayE k)) []) ∧ Hid (∀ y ∈ o, y.x.size ≤ maxLen) ∧ Hid (Row w.heap.size wr (.slice a1 m c1) o) ∧ Hid (Below w.heap.size w wr)) (fun _ _ _ _ i _ _ => n - (intOf i).toNat)
  case atStart => exact ⟨0, 0, 0, some ⟨w.heap.size, 0, none⟩, [], Nat.zero_le _, Nat.le_refl _, rfl, rfl, Lib.hid rfl, Lib.hid (by simp), Lib.hid (fun y hy => by cases hy), Lib.hid (row_new (Nat.le_refl _)), Lib.hid (al_new _)⟩
  case round =>
    obtain ⟨j, m, c1, a1, o, hj, hmj, rfl, rfl, HM, HO, HOK, HRW, HS⟩ := hrel
    by_cases hlt : j < n
    · have hjl : j < l.length := by rw [H.out.len]; exact hlt
      obtain ⟨b, p, rfl, e0, e1, e2⟩ := (H.out.at_.below HS.out).get j hjl
      have hx := H.out.ok _ (aget_mem hjl)
      have htk := at_take l j hjl
      generalize aget l j = x at *
      have HTK := Lib.hid htk; have HX := Lib.hid hx; have HE := Lib.hid (And.intro e0 (And.intro e1 e2))
      clear htk hjl hx e0 e1 e2
      generalize wr = wr0 at *
      go_wp2_with (fail)
      go_loopg [7, 8, 17] nk (fun gh gs _ i2 wq => ∃ (t q : Nat) (d : Bool), t ≤ nk ∧ nk - t ≤ gh ∧ i2 = .int .i64 (t : Int) ∧ gs = .bool d ∧ wq = wr0.drewN q ∧ Hid (d = goesB x (k.take t)))
      case atStart => exact ⟨0, 0, false, Nat.zero_le _, by omega, rfl, rfl, rfl, Lib.hid (by unfold goesB; rw [List.take_zero, cs_nil, Bool.and_false])⟩
      case round =>
        obtain ⟨t, q, d, ht, hgh, rfl, rfl, rfl, HD⟩ := hrel
        by_cases hlt2 : t < nk
        · have htk : t < k.length := by rw [HK.out.len]; exact hlt2
          obtain ⟨bk, ok, rfl, s0⟩ := strs_get (HK.out.below HS.out) t htk
          have hstk := strs_take k t htk
          generalize k.getD t ByteArray.empty = y at *
          have HSTK := Lib.hid hstk
          obtain ⟨e0, e1, e2⟩ := HE.out
          clear htk hstk e1
          cases d
          · by_cases hk3 : x.k = 3
            · have hkk : (x.k == 3) = true := by simpa using hk3
              have HK3 := Lib.hid hk3
              clear hk3
              by_cases hy : y = x.x
              · have hyx := str_eq hy
                have HY := Lib.hid hy
                clear hy
                go_wp2_with (fail)
                go_region_o
                clear hyx hkk e0 e2 s0
                go_wp2_with (fail)
                go_roundg (nk - (t + 1))
                case measure => omega
                case rel => exact ⟨t + 1, q + 1, true, by omega, by omega, by go_num, rfl, rfl, Lib.hid (by rw [HSTK.out]; unfold goesB; rw [decide_eq_true HK3.out, (cs_snoc _ _ _).2 (.inr HY.out)]; rfl)⟩
              · have hyx := str_ne hy
                have HY := Lib.hid hy
                clear hy
                go_wp2_with (fail)
                go_region_o
                clear hyx hkk e0 e2 s0
                go_wp2_with (fail)
                go_roundg (nk - (t + 1))
                case measure => omega
                case rel => exact ⟨t + 1, q + 1, false, by omega, by omega, by go_num, rfl, rfl, Lib.hid (by rw [HSTK.out, HD.out]; unfold goesB; congr 1; rw [Bool.eq_iff_iff, cs_snoc]; exact ⟨.inl, fun h => h.elim id fun h => absurd h HY.out⟩)⟩
            · have hkk : (x.k == 3) = false := by simpa using hk3
              have HK3 := Lib.hid hk3
              clear hk3
              go_wp2_with (fail)
              go_region_o
              clear hkk e0 e2 s0
              go_wp2_with (fail)
              go_roundg (nk - (t + 1))
              case measure => omega
              case rel => exact ⟨t + 1, q + 1, false, by omega, by omega, by go_num, rfl, rfl, Lib.hid (by unfold goesB; rw [decide_eq_false HK3.out]; rfl)⟩
          · go_wp2_with (fail)
            go_region_o
            clear e0 e2 s0
            go_wp2_with (fail)
            go_roundg (nk - (t + 1))
            case measure => omega
            case rel => exact ⟨t + 1, q + 1, true, by omega, by omega, by go_num, rfl, rfl, Lib.hid (by
              have hd := HD.out
              unfold goesB at hd ⊢
              symm at hd
              rw [Bool.and_eq_true] at hd
              rw [hd.1, HSTK.out, (cs_snoc _ _ _).2 (.inl hd.2)]; rfl)⟩
        · obtain rfl : t = nk := by omega
          have hd := HD.out
          rw [List.take_of_length_le (by rw [HK.out.len]; exact Nat.le_refl _), goes_stay] at hd
          have hbq : Below wr0.heap.size wr0 (wr0.drewN q) := ⟨rfl, rfl, rfl, Nat.le_refl _, fun _ _ => rfl⟩
          have HRQ := Lib.hid (HRW.out.below hbq); have HSQ := Lib.hid (below_then HS.out hbq HS.out.size)
          obtain ⟨e0, e1, e2⟩ := cells_stay (V := wr0.drewN q) HE.out rfl
          clear hbq
          generalize wr0.drewN q = wq at *
          cases hp : stayE k x
          · have HST := Lib.hid hp
            rw [hp] at hd
            subst hd
            clear hp
            simp only [Bool.not_false, Bool.not_true]
            go_wp2_with (fail)
            go_roundw
            case rel => exact ⟨j + 1, m, c1, a1, o, by omega, by omega, by go_num, rfl, HM, Lib.hid (by rw [HTK.out, List.foldl_append, ← HO.out]; exact (show pick1 (stayE k) o x = o by unfold pick1; rw [if_neg (by rw [HST.out]; simp)]).symm), HOK, HRQ, HSQ⟩
            case measure => simp [intOf]; omega
          · have HST := Lib.hid hp
            rw [hp] at hd
            subst hd
            clear hp
            simp only [Bool.not_false, Bool.not_true]
            have HP := Lib.hid (put_walk HRQ.out HSQ.out.size HOK.out HX.out (by omega))
            go_wp2_with (fail)
            refine HP.out.mono ?_
            rintro e w3 ⟨v, rfl, hr, hb3⟩
            obtain ⟨a2, c2, rfl⟩ := hr.slice
            have HR3 := Lib.hid hr; have HS3 := Lib.hid (below_then HSQ.out hb3 HSQ.out.size)
            have hle := putA_le o x
            rw [← HM.out] at hle
            generalize hm2 : (putA o x).length = m2 at *
            have HM2 := Lib.hid hm2
            clear hr hb3 hm2
            go_wp2_with (fail)
            go_roundw
            case rel => exact ⟨j + 1, m2, c2, a2, putA o x, by omega, by omega, by go_num, rfl, Lib.hid HM2.out.symm, Lib.hid (by rw [HTK.out, List.foldl_append, ← HO.out]; exact (show pick1 (stayE k) o x = putA o x by unfold pick1; rw [if_pos HST.out]).symm), Lib.hid (putA_ok HOK.out HX.out), HR3, HS3⟩
            case measure => simp [intOf]; omega
    · obtain rfl : j = n := by omega
      have ho := HO.out
      rw [List.take_of_length_le (by rw [H.out.len]; exact Nat.le_refl _), pick_of] at ho
      have HOF := Lib.hid ho
      clear ho
      go_wp2_with (fail)
      go_ret
      refine ⟨a1, m, c1, rfl, hmj, by rw [← HOF.out]; exact Rd.of_row HRW.out HOK.out, HS.out⟩
set_option maxHeartbeats 6400000 in
theorem refIn_walk {n c : Nat} {a : Option Addr} {l : List ByteArray} {w : World} (h : RdS w n a l) (hn : n ≤ 100000) (x : ByteArray) : Calls Tryz.prog 22 #[.slice a n c, .string x] w fun e w' => e = .returned (.bool (Lib.containsS l x)) ∧ w' = w := by
  have H := Lib.hid h
  clear h
  go_enter Tryz.func22, Tryz.ntmps22
  go_wp2_with (fail)
  go_loopw [5, 8] (fun _ i wr => ∃ j : Nat, j ≤ n ∧ i = .int .i64 (j : Int) ∧ Hid (wr = w) ∧ Hid (x ∉ l.take j)) (fun _ i _ => n - (intOf i).toNat)
  case atStart => exact ⟨0, Nat.zero_le _, rfl, Lib.hid rfl, Lib.hid (by simp)⟩
  case round =>
    obtain ⟨j, hj, rfl, HW, HA⟩ := hrel
    by_cases hlt : j < n
    · have hjl : j < l.length := by rw [H.out.len]; exact hlt
      obtain ⟨b1, o1, rfl, e0⟩ := strs_get H.out j hjl
      rw [← HW.out] at e0
      have htk := strs_take l j hjl
      have hmem : l.getD j ByteArray.empty ∈ l := by rw [List.getD_eq_getElem?_getD, List.getElem?_eq_getElem hjl]; exact List.getElem_mem hjl
      generalize l.getD j ByteArray.empty = y at *
      have HTK := Lib.hid htk; have HMEM := Lib.hid hmem
      clear htk hmem hjl
      by_cases hy : y = x
      · have hyx := str_eq hy
        have HY := Lib.hid hy
        clear hy
        go_wp2_with (fail)
        go_ret
        exact ⟨ret_bool ((Lib.containsS_iff _ _).2 (by rw [← HY.out]; exact HMEM.out)).symm, HW.out⟩
      · have hyx := str_ne hy
        have HY := Lib.hid hy
        clear hy
        go_wp2_with (fail)
        go_roundw
        case rel => exact ⟨j + 1, by omega, by go_num, HW, Lib.hid (by rw [HTK.out]; simp only [List.mem_append, List.mem_singleton, not_or]; exact ⟨HA.out, fun e => HY.out e.symm⟩)⟩
        case measure => simp [intOf]; omega
    · obtain rfl : j = n := by omega
      have hno : x ∉ l := by
        have := HA.out
        rw [List.take_of_length_le (by rw [H.out.len]; exact Nat.le_refl _)] at this
        exact this
      have HNO := Lib.hid hno
      clear hno
      go_wp2_with (fail)
      go_ret
      exact ⟨ret_bool (Bool.eq_false_iff.2 fun e => HNO.out ((Lib.containsS_iff _ _).1 e)).symm, HW.out⟩
end Effect
end Go.Proofs.YtggabjmfdnfckaaGreatDoor
