/-The walks of the program's Same and of the document's, of types with regions. The walk of RtypeSame. The document's PutInt, Rhos and Exns. -/
import Derived.Test.YtabegjpledammaaGreatDoorGC08
import Derived.Test.YtabegjpledammaaGreatDoorGC17
import Derived.StillTailTactics
import Derived.Test.YtabegjpledammaaGreatDoorGC13
import Derived.Test.YtabegjpledammaaGreatDoorGC06
namespace Go.Proofs.YtabegjpledammaaGreatDoor
open Go.RowKit
set_option linter.unusedVariables false
set_option linter.unusedSimpArgs false
namespace Rt
open Effect (At AtOk AtsAt Rd ofA ret_i64 ret_bool withinB)

/-- What is asked of Same by the one that goes through kids. -/
def SameOf (f : Nat) (m : Nat) : Prop := ∀ (t u : RT) (h h' : Hd) (pe pe' : Option Addr) (ne ce ne' ce' : Nat) (p p' : Option Addr) (l c l' c' : Nat) (w : World), wt t ≤ m → RtIs w h pe ne ce p l c t → RtIs w h' pe' ne' ce' p' l' c' u → allT (effB 100000) t = true → allT (effB 100000) u = true →
    Calls Tryz.prog f #[.agg #[.int .u8 h.k, .int .i64 h.r, .slice pe ne ce, .slice p l c], .agg #[.int .u8 h'.k, .int .i64 h'.r, .slice pe' ne' ce', .slice p' l' c']] w fun e w' => e = .returned (.bool (sameT t u)) ∧ Below w.heap.size w w'

set_option maxRecDepth 10000 in
set_option maxHeartbeats 6400000 in
theorem equal_walk (m : Nat) (hS : SameOf 19 m) (ts us : List RT) (p p' : Option Addr) (l c l' c' : Nat) (w : World) (hm : wts ts ≤ m) (hl : ts.length = l) (hl' : us.length = l') (hlm : l ≤ maxLen) (hlm' : l' ≤ maxLen) (hk : Kids w p ts) (hk' : Kids w p' us) (hi : allK (effB 100000) ts = true) (hi' : allK (effB 100000) us = true) :
    Calls Tryz.prog 39 #[.slice p l c, .slice p' l' c', .func (.func 19) #[] #[]] w fun e w' => e = .returned (.bool (decide (l = l') && sameK ts us)) ∧ Below w.heap.size w w' := by
  unfold maxLen at hlm hlm'
  have HS := Lib.hid hS; have HM := Lib.hid hm; have HL := Lib.hid hl; have HL' := Lib.hid hl'; have HK := Lib.hid hk; have HK' := Lib.hid hk'; have HI := Lib.hid hi; have HI' := Lib.hid hi'
  clear hS hm hl hl' hk hk' hi hi'
  by_cases hll : l ≠ l'
  · have n1 : ((l : Int) == (l' : Int)) = false := by rw [beq_eq_false_iff_ne]; omega
    have n2 : ((l : Int) != (l' : Int)) = true := by rw [bne, n1]; rfl
    have hd : (decide (l = l') && sameK ts us) = false := by simp [hll]
    have HD := Lib.hid hd
    clear hd hll
    go_enter Tryz.func39, Tryz.ntmps39
    go_wp2_with (fail)
    go_ret
    exact ⟨ret_bool HD.out.symm, Below.refl _ _⟩
  have hll' : l = l' := Classical.not_not.1 hll
  clear hll
  subst hll'
  have hd : (decide (l = l) && sameK ts us) = sameK ts us := by simp
  have HD := Lib.hid hd
  clear hd hlm'
  go_enter Tryz.func39, Tryz.ntmps39
  go_wp2_with (fail)
  go_loopw [7, 8, 9, 17] (fun _ _ _ i wr => ∃ j : Nat, j ≤ l ∧ i = .int .i64 j ∧ Hid (sameK ts us = sameK (ts.drop j) (us.drop j)) ∧ Hid (Below w.heap.size w wr)) (fun _ _ _ i _ => l - (intOf i).toNat)
  case atStart => exact ⟨0, Nat.zero_le _, rfl, Lib.hid (by rw [List.drop_zero, List.drop_zero]), Lib.hid (Below.refl _ _)⟩
  case round =>
    obtain ⟨j, hj, rfl, HSK, HW⟩ := hrel
    by_cases hlt : j < l
    · have hjk : j < ts.length := by rw [HL.out]; exact hlt
      have hjk' : j < us.length := by rw [HL'.out]; exact hlt
      obtain ⟨b, o, q, d, qe, de, rfl, hkid, c0, c1, c2, c3⟩ := (HK.out.stay HW.out).get j hjk
      obtain ⟨b', o', q', d', qe', de', rfl, hkid', e0, e1, e2, e3⟩ := (HK'.out.stay HW.out).get j hjk'
      have hbox : ∀ O O' : Obj, Below wr.heap.size wr ((wr.alloc O).alloc O') := fun O O' => ((Below.refl _ _).alloc (Nat.le_refl _) O).alloc (by simp) O'
      have hwk := wts_get hjk
      have hbl := World.block_lt_of_cell? wr _ e0
      simp only at hbl
      have hik := allK_get _ hjk HI.out
      have hik' := allK_get _ hjk' HI'.out
      have HKI := Lib.hid hkid; have HKI' := Lib.hid hkid'; have HBOX := Lib.hid hbox; have HJ := Lib.hid hjk; have HJ' := Lib.hid hjk'; have HWK := Lib.hid hwk; have HIK := Lib.hid hik; have HIK' := Lib.hid hik'
      clear hkid hkid' hbox hjk hjk' hwk hik hik'
      go_wp2_with (fail)
      refine (HS.out (tget ts j) (tget us j) _ _ qe qe' _ de _ de' q q' _ d _ d' _ (by have := HM.out; have := HWK.out; omega) (HKI.out.below (HBOX.out _ _)) (HKI'.out.below (HBOX.out _ _)) HIK.out HIK'.out).mono ?_
      rintro e w2 ⟨rfl, hb2⟩
      have HW2 := Lib.hid (HW.out.trans ((HBOX.out _ _).mono HW.out.size |>.trans (hb2.mono (Nat.le_trans HW.out.size (HBOX.out _ _).size))))
      clear hb2 hbl c0 c1 c2 c3 e0 e1 e2 e3
      cases hs : sameT (tget ts j) (tget us j)
      · have hno := sameK_no HJ.out HJ'.out hs
        have HNO := Lib.hid hno
        clear hno hs
        go_wp2
        go_ret
        exact ⟨ret_bool (by rw [HD.out, HSK.out, HNO.out]), HW2.out⟩
      · have hgo := sameK_go HJ.out HJ'.out hs
        have HGO := Lib.hid hgo
        clear hgo hs
        go_wp2
        go_roundw
        case rel => exact ⟨j + 1, by omega, by go_num, Lib.hid (HSK.out.trans HGO.out), HW2⟩
        case measure => simp [intOf]; omega
    · obtain rfl : j = l := by omega
      have hr2 := HSK.out
      rw [List.drop_eq_nil_of_le (by rw [HL.out]; exact Nat.le_refl _), sameK_nil] at hr2
      have HR2 := Lib.hid hr2
      clear hr2
      go_wp2
      go_ret
      exact ⟨ret_bool (by rw [HD.out, HR2.out]), HW.out⟩

theorem eff_len {w : World} {h : Hd} {pe : Option Addr} {ne ce : Nat} {p : Option Addr} {l c : Nat} {t : RT} (hT : RtIs w h pe ne ce p l c t) {n : Nat} (hi : allT (effB n) t = true) : ne ≤ n ∧ allK (effB n) t.ks = true := by
  rw [allT_eq, Bool.and_eq_true, hT.head] at hi
  exact ⟨by rw [← hT.elen]; exact (eff_iff.1 hi.1).1, hi.2⟩
set_option maxRecDepth 100000 in
set_option maxHeartbeats 6400000 in
theorem same_walk : ∀ m : Nat, SameOf 19 m := by
  intro m
  induction m with
  | zero => intro t u h h' pe pe' ne ce ne' ce' p p' l c l' c' w hm; have := wt_pos t; omega
  | succ m ih =>
    intro t u h h' pe pe' ne ce ne' ce' p p' l c l' c' w hm hT hU hi hi'
    have hlc : l ≤ maxLen := Nat.le_trans hT.cap.1 hT.cap.2
    have hlc' : l' ≤ maxLen := Nat.le_trans hU.cap.1 hU.cap.2
    have hs0 := sameT_eq t u
    rw [hT.head, hU.head, hT.len, hU.len] at hs0
    have hei := eff_len hT hi
    have hei' := eff_len hU hi'
    obtain ⟨k, v, e⟩ := h
    obtain ⟨k', v', e'⟩ := h'
    have hks : wts t.ks ≤ m := by have := wt_ks t; omega
    have hbox : ∀ O O' : Obj, Below w.heap.size w ((w.alloc O).alloc O') := fun O O' => ((Below.refl _ _).alloc (Nat.le_refl _) O).alloc (by simp) O'
    have hE := fun W (hb : Below w.heap.size w W) => equal_walk m ih t.ks u.ks p p' l c l' c' W hks hT.len hU.len hlc hlc' (hT.kids.stay hb) (hU.kids.stay hb) hei.2 hei'.2
    have hS := fun O O' : Obj => Effect.same_walk (c := ce) (d := ce') (hT.eff.below (hbox O O')).rd (hU.eff.below (hbox O O')).rd hei.1 hei'.1
    have HE := Lib.hid hE; have HBOX := Lib.hid hbox; have HSA := Lib.hid hS
    clear ih hT hU hks hbox hE hm hS hi hi' hei hei'
    simp only at hs0
    by_cases hk : k = k'
    · subst hk
      by_cases hv : v = v'
      · subst hv
        have n1 : (k == k) = true := by simp
        have n3 : (v == v) = true := by simp
        cases hof : decide (ofA e = ofA e')
        · have hs1 : sameT t u = false := by rw [hs0, hof]; simp
          have HS0 := Lib.hid hs1; have HOF := Lib.hid hof
          clear hs0 hs1 hof
          go_enter Tryz.func19, Tryz.ntmps19
          go_wp2_with (fail)
          refine (HSA.out _ _).mono ?_
          rintro e1 w1 ⟨rfl, hb1⟩
          have HB1 := Lib.hid ((HBOX.out _ _).trans (hb1.mono (HBOX.out _ _).size)); clear hb1
          rw [HOF.out]
          go_wp2
          go_ret
          exact ⟨ret_bool HS0.out.symm, HB1.out⟩
        have hs1 : sameT t u = (decide (l = l') && sameK t.ks u.ks) := by rw [hs0, hof]; simp
        have HS0 := Lib.hid hs1; have HOF := Lib.hid hof
        clear hs0 hs1 hof
        go_enter Tryz.func19, Tryz.ntmps19
        go_wp2_with (fail)
        refine (HSA.out _ _).mono ?_
        rintro e1 w1 ⟨rfl, hb1⟩
        have hbb : Below (w.alloc (.cells #[.int .u8 k, .int .i64 v, .slice pe ne ce, .slice p l c] 25)).heap.size (w.alloc (.cells #[.int .u8 k, .int .i64 v, .slice pe ne ce, .slice p l c] 25)) w1 := below_then (box_new _) hb1 (by simp)
        obtain ⟨b0, b1, b2, b3⟩ := box4 (N := w.heap.size) rfl hbb
        obtain ⟨d0, d1, d2, d3⟩ := box4 (N := w.heap.size + 1) (by simp) hb1
        have HB1 := Lib.hid ((HBOX.out _ _).trans (hb1.mono (HBOX.out _ _).size)); clear hb1 hbb
        rw [HOF.out]
        go_wp2_with (fail)
        refine (HE.out _ HB1.out).mono ?_
        rintro e2 w2 ⟨rfl, hb2⟩
        have HB2 := Lib.hid (below_then HB1.out hb2 HB1.out.size); clear hb2
        cases hr : (decide (l = l') && sameK t.ks u.ks)
        all_goals
          have HR := Lib.hid hr
          clear hr
          go_wp2
          go_ret
          exact ⟨ret_bool (by rw [HS0.out, HR.out]), HB2.out⟩
      · have hfalse : sameT t u = false := by rw [hs0]; simp [hv]
        have HF := Lib.hid hfalse
        have n1 : (k == k) = true := by simp
        have n3 : (v == v') = false := by simpa using hv
        clear hs0 hfalse hv
        go_enter Tryz.func19, Tryz.ntmps19
        go_wp2_with (fail)
        go_ret
        exact ⟨ret_bool HF.out.symm, HBOX.out _ _⟩
    · have hfalse : sameT t u = false := by rw [hs0]; simp [hk]
      have HF := Lib.hid hfalse
      have n1 : (k == k') = false := by simpa using hk
      clear hs0 hfalse hk
      go_enter Tryz.func19, Tryz.ntmps19
      go_wp2_with (fail)
      go_ret
      exact ⟨ret_bool HF.out.symm, HBOX.out _ _⟩

/-! ### The document's -/
set_option maxRecDepth 10000 in
set_option maxHeartbeats 12800000 in
theorem refSame_walk : ∀ m : Nat, SameOf 18 m := by
  intro m
  induction m with
  | zero => intro t u h h' pe pe' ne ce ne' ce' p p' l c l' c' w hm; have := wt_pos t; omega
  | succ m ih =>
    intro t u h h' pe pe' ne ce ne' ce' p p' l c l' c' w hm hT hU hi hi'
    have hs0 := sameT_eq t u
    rw [hT.head, hU.head, hT.len, hU.len] at hs0
    have hei := eff_len hT hi
    have hei' := eff_len hU hi'
    have hlc := cap63 hT
    have hlc' := cap63 hU
    obtain ⟨k, v, e⟩ := h
    obtain ⟨k', v', e'⟩ := h'
    have hbox : ∀ O O' : Obj, Below w.heap.size w ((w.alloc O).alloc O') := fun O O' => ((Below.refl _ _).alloc (Nat.le_refl _) O).alloc (by simp) O'
    have hW1 := fun O O' : Obj => Effect.refWithin_walk (c := ce) (d := ce') (hT.eff.below (hbox O O')).rd (hU.eff.below (hbox O O')).rd hei.1 hei'.1
    have hW2 := fun W (hb : Below w.heap.size w W) => Effect.refWithin_walk (c := ce') (d := ce) (hU.eff.below hb).rd (hT.eff.below hb).rd hei'.1 hei.1
    have HBOX := Lib.hid hbox; have HM := Lib.hid hm; have HW1 := Lib.hid hW1; have HW2 := Lib.hid hW2
    clear hm hbox hi hi' hW1 hW2
    simp only at hs0
    by_cases hk : k ≠ k'
    · have hr : sameT t u = false := by rw [hs0]; simp [hk]
      have HR := Lib.hid hr
      have n1 : (k == k') = false := by simpa using hk
      have n2 : (k != k') = true := by simpa using hk
      clear hr hT hU ih hk hs0
      go_enter Tryz.func18, Tryz.ntmps18
      go_wp2_with (fail)
      go_ret
      exact ⟨ret_bool HR.out.symm, HBOX.out _ _⟩
    have hk' : k = k' := Classical.not_not.1 hk
    clear hk
    subst hk'
    by_cases hv : v ≠ v'
    · have hr : sameT t u = false := by rw [hs0]; simp [hv]
      have HR := Lib.hid hr
      have n1 : (v == v') = false := by simpa using hv
      have n2 : (v != v') = true := by simpa using hv
      clear hr hT hU ih hv hs0
      go_enter Tryz.func18, Tryz.ntmps18
      go_wp2_with (fail)
      go_ret
      exact ⟨ret_bool HR.out.symm, HBOX.out _ _⟩
    have hv' : v = v' := Classical.not_not.1 hv
    clear hv
    subst hv'
    by_cases hll : l ≠ l'
    · have hr : sameT t u = false := by rw [hs0]; simp [hll]
      have HR := Lib.hid hr
      have n1 : ((l : Int) == (l' : Int)) = false := by rw [beq_eq_false_iff_ne]; omega
      have n2 : ((l : Int) != (l' : Int)) = true := by rw [bne, n1]; rfl
      clear hr hT hU ih hs0
      go_enter Tryz.func18, Tryz.ntmps18
      go_wp2_with (fail)
      go_ret
      exact ⟨ret_bool HR.out.symm, HBOX.out _ _⟩
    have hll' : l = l' := Classical.not_not.1 hll
    clear hll
    subst hll'
    rw [Effect.same_iff] at hs0
    cases hw1 : withinB e e'
    · have hr : sameT t u = false := by rw [hs0, hw1]; simp
      have HR := Lib.hid hr; have HWB := Lib.hid hw1
      clear hr hT hU ih hs0 hw1
      go_enter Tryz.func18, Tryz.ntmps18
      go_wp2_with (fail)
      refine (HW1.out _ _).mono ?_
      rintro e1 w1 ⟨rfl, hb1⟩
      have HB1 := Lib.hid ((HBOX.out _ _).trans (hb1.mono (HBOX.out _ _).size)); clear hb1
      rw [HWB.out]
      go_wp2_with (fail)
      go_ret
      exact ⟨ret_bool HR.out.symm, HB1.out⟩
    cases hw2 : withinB e' e
    · have hr : sameT t u = false := by rw [hs0, hw1, hw2]; simp
      have HR := Lib.hid hr; have HWB := Lib.hid hw1; have HWC := Lib.hid hw2
      clear hr hT hU ih hs0 hw1 hw2
      go_enter Tryz.func18, Tryz.ntmps18
      go_wp2_with (fail)
      refine (HW1.out _ _).mono ?_
      rintro e1 w1 ⟨rfl, hb1⟩
      have hbb : Below (w.alloc (.cells #[.int .u8 k, .int .i64 v, .slice pe ne ce, .slice p l c] 25)).heap.size (w.alloc (.cells #[.int .u8 k, .int .i64 v, .slice pe ne ce, .slice p l c] 25)) w1 := below_then (box_new _) hb1 (by simp)
      obtain ⟨b0, b1, b2, b3⟩ := box4 (N := w.heap.size) rfl hbb
      obtain ⟨d0, d1, d2, d3⟩ := box4 (N := w.heap.size + 1) (by simp) hb1
      have HB1 := Lib.hid ((HBOX.out _ _).trans (hb1.mono (HBOX.out _ _).size)); clear hb1 hbb
      rw [HWB.out]
      go_wp2_with (fail)
      refine (HW2.out _ HB1.out).mono ?_
      rintro e2 w2 ⟨rfl, hb2⟩
      have HB2 := Lib.hid (below_then HB1.out hb2 HB1.out.size); clear hb2
      rw [HWC.out]
      go_wp2_with (fail)
      go_ret
      exact ⟨ret_bool HR.out.symm, HB2.out⟩
    have hr : sameT t u = sameK t.ks u.ks := by rw [hs0, hw1, hw2]; simp
    have HR := Lib.hid hr; have HT := Lib.hid hT; have HU := Lib.hid hU; have IH := Lib.hid ih; have HWB := Lib.hid hw1; have HWC := Lib.hid hw2; have HEI := Lib.hid (And.intro hei.2 hei'.2)
    clear hr hT hU ih hlc' hs0 hw1 hw2 hei hei'
    go_enter Tryz.func18, Tryz.ntmps18
    go_wp2_with (fail)
    refine (HW1.out _ _).mono ?_
    rintro e1 w1 ⟨rfl, hb1⟩
    have hbb : Below (w.alloc (.cells #[.int .u8 k, .int .i64 v, .slice pe ne ce, .slice p l c] 25)).heap.size (w.alloc (.cells #[.int .u8 k, .int .i64 v, .slice pe ne ce, .slice p l c] 25)) w1 := below_then (box_new _) hb1 (by simp)
    obtain ⟨b0, b1, b2, b3⟩ := box4 (N := w.heap.size) rfl hbb
    obtain ⟨d0, d1, d2, d3⟩ := box4 (N := w.heap.size + 1) (by simp) hb1
    have HB1 := Lib.hid ((HBOX.out _ _).trans (hb1.mono (HBOX.out _ _).size)); have HBA := Lib.hid hb1; clear hb1 hbb
    rw [HWB.out]
    go_wp2_with (fail)
    refine (HW2.out _ HB1.out).mono ?_
    rintro e2 w2 ⟨rfl, hb2⟩
    have hba2 := below_then HBA.out hb2 HBA.out.size
    have hbb : Below (w.alloc (.cells #[.int .u8 k, .int .i64 v, .slice pe ne ce, .slice p l c] 25)).heap.size (w.alloc (.cells #[.int .u8 k, .int .i64 v, .slice pe ne ce, .slice p l c] 25)) w2 := below_then (box_new _) hba2 (by simp)
    have HBA2 := Lib.hid hba2
    clear b0 b1 b2 b3 d0 d1 d2 d3
    obtain ⟨b0, b1, b2, b3⟩ := box4 (N := w.heap.size) rfl hbb
    obtain ⟨d0, d1, d2, d3⟩ := box4 (N := w.heap.size + 1) (by simp) hba2
    clear hb2 hbb hba2
    rw [HWC.out]
    go_wp2_with (fail)
    go_loopw [5, 46] (fun _ i wr => ∃ j : Nat, j ≤ l ∧ i = .int .i64 j ∧ Hid (sameK t.ks u.ks = sameK (t.ks.drop j) (u.ks.drop j)) ∧ Hid (Below ((w.alloc (.cells #[.int .u8 k, .int .i64 v, .slice pe ne ce, .slice p l c] 25)).alloc (.cells #[.int .u8 k, .int .i64 v, .slice pe' ne' ce', .slice p' l c'] 25)).heap.size ((w.alloc (.cells #[.int .u8 k, .int .i64 v, .slice pe ne ce, .slice p l c] 25)).alloc (.cells #[.int .u8 k, .int .i64 v, .slice pe' ne' ce', .slice p' l c'] 25)) wr)) (fun _ i _ => l - (intOf i).toNat)
    case atStart => exact ⟨0, Nat.zero_le _, rfl, Lib.hid (by rw [List.drop_zero, List.drop_zero]), HBA2⟩
    case round =>
      obtain ⟨j, hj, rfl, HSK, HW⟩ := hrel
      have hw1 : Below (w.alloc (.cells #[.int .u8 k, .int .i64 v, .slice pe ne ce, .slice p l c] 25)).heap.size (w.alloc (.cells #[.int .u8 k, .int .i64 v, .slice pe ne ce, .slice p l c] 25)) wr := below_then (box_new _) HW.out (by simp)
      obtain ⟨f0, f1, f2, f3⟩ := box4 (N := w.heap.size) rfl hw1
      obtain ⟨g0, g1, g2, g3⟩ := box4 (N := w.heap.size + 1) (by simp) HW.out
      have HWW := Lib.hid ((HBOX.out _ _).trans (HW.out.mono (by simp; omega : w.heap.size ≤ _)))
      clear hw1
      by_cases hlt : j < l
      · have hjk : j < t.ks.length := by rw [HT.out.len]; exact hlt
        have hjk' : j < u.ks.length := by rw [HU.out.len]; exact hlt
        have hst := HSK.out
        rw [sameK_step _ _ _ hjk hjk'] at hst
        obtain ⟨b, o, q, d, qe, de, rfl, hkid, c0, c1, c2, c3⟩ := (HT.out.kids.stay HWW.out).get j hjk
        obtain ⟨b', o', q', d', qe', de', rfl, hkid', e0, e1, e2, e3⟩ := (HU.out.kids.stay HWW.out).get j hjk'
        have hwk := wts_get hjk
        have hwt := wt_ks t
        have hik := allK_get _ hjk HEI.out.1
        have hik' := allK_get _ hjk' HEI.out.2
        have HST := Lib.hid hst; have HK := Lib.hid hkid; have HK' := Lib.hid hkid'; have HIK := Lib.hid hik; have HIK' := Lib.hid hik'
        have HWK := Lib.hid hwk; have HWT := Lib.hid hwt
        clear hst hkid hkid' hwk hwt hjk hjk' hik hik' b0 b1 b2 b3 d0 d1 d2 d3
        go_wp2_with (fail)
        go_still_tail 10, (by kernel_rfl)
        go_wp2_with (fail)
        refine (IH.out (tget t.ks j) (tget u.ks j) _ _ qe qe' _ de _ de' q q' _ d _ d' _ (by have := HM.out; have := HWK.out; have := HWT.out; omega) (HK.out.below (Below.refl _ _).drew) (HK'.out.below (Below.refl _ _).drew) HIK.out HIK'.out).mono ?_
        rintro e w3 ⟨rfl, hb3⟩
        have HW3 := Lib.hid (HW.out.drew.trans (hb3.mono HW.out.size))
        have HWW3 := Lib.hid (HWW.out.drew.trans (hb3.mono HWW.out.size))
        clear hb3 f0 f1 f2 f3 g0 g1 g2 g3 c0 c1 c2 c3 e0 e1 e2 e3
        cases hs : sameT (tget t.ks j) (tget u.ks j)
        · have hr2 := HST.out
          rw [hs, Bool.false_and] at hr2
          have HR2 := Lib.hid hr2
          clear hr2 hs
          go_wp2
          go_ret
          exact ⟨ret_bool (by rw [HR.out, HR2.out]), HWW3.out⟩
        · have hr2 := HST.out
          rw [hs, Bool.true_and] at hr2
          have HR2 := Lib.hid hr2
          clear hr2 hs
          go_wp2
          go_roundw
          case rel => exact ⟨j + 1, by omega, by go_num, HR2, HW3⟩
          case measure => simp [intOf]; omega
      · obtain rfl : j = l := by omega
        have hr2 := HSK.out
        rw [List.drop_eq_nil_of_le (by rw [HT.out.len]; exact Nat.le_refl _), sameK_nil] at hr2
        have HR2 := Lib.hid hr2
        clear hr2
        go_wp2
        go_ret
        exact ⟨ret_bool (by rw [HR.out, HR2.out]), HWW.out⟩
end Rt
end Go.Proofs.YtabegjpledammaaGreatDoor
namespace Go.Proofs.YtabegjpledammaaGreatDoor
open Go.RowKit
set_option linter.unusedVariables false
set_option linter.unusedSimpArgs false
namespace Rt
open Effect (At AtOk AtsAt Rd ofA ret_i64 ret_bool lt_of_block heap_alloc_new NumLaid)

/-- The two boxes, read later. -/
theorem boxes {w W : World} {a0 a1 a2 a3 b0 b1 b2 b3 : Value} {ty tz : TypeId} (hb : Below ((w.alloc (.cells #[a0, a1, a2, a3] ty)).alloc (.cells #[b0, b1, b2, b3] tz)).heap.size ((w.alloc (.cells #[a0, a1, a2, a3] ty)).alloc (.cells #[b0, b1, b2, b3] tz)) W) :
    (W.cell? ⟨w.heap.size, 0, none⟩ = some a0 ∧ W.cell? ⟨w.heap.size, 1, none⟩ = some a1 ∧ W.cell? ⟨w.heap.size, 2, none⟩ = some a2 ∧ W.cell? ⟨w.heap.size, 3, none⟩ = some a3) ∧ (W.cell? ⟨w.heap.size + 1, 0, none⟩ = some b0 ∧ W.cell? ⟨w.heap.size + 1, 1, none⟩ = some b1 ∧ W.cell? ⟨w.heap.size + 1, 2, none⟩ = some b2 ∧ W.cell? ⟨w.heap.size + 1, 3, none⟩ = some b3) :=
  ⟨box4 rfl (below_then (box_new _) hb (by simp)), box4 (by simp) hb⟩
set_option maxRecDepth 100000 in
set_option maxHeartbeats 12800000 in
theorem rtypeSame_walk (h h' : Hd) (pe pe' : Option Addr) (ne ce ne' ce' : Nat) (p p' : Option Addr) (l c l' c' : Nat) (t u : RT) (w : World) (hT : RtIs w h pe ne ce p l c t) (hU : RtIs w h' pe' ne' ce' p' l' c' u) (hl : NumLaid w) :
    Calls Tryz.prog 4 #[.agg #[.int .u8 h.k, .int .i64 h.r, .slice pe ne ce, .slice p l c], .agg #[.int .u8 h'.k, .int .i64 h'.r, .slice pe' ne' ce', .slice p' l' c']] w fun e w' => e = .returned (.bool true) ∧ Below w.heap.size w w' := by
  have hg1 := fun W (hb : Below w.heap.size w W) => great_walk t h pe ne ce p l c W (hT.below hb)
  have hg2 := fun W (hb : Below w.heap.size w W) => great_walk u h' pe' ne' ce' p' l' c' W (hU.below hb)
  have haw := fun W (hb : Below w.heap.size w W) => awake_walk W (hl.below hb)
  have hbox : ∀ O O' : Obj, Below w.heap.size w ((w.alloc O).alloc O') := fun O O' => ((Below.refl _ _).alloc (Nat.le_refl _) O).alloc (by simp) O'
  have HG1 := Lib.hid hg1; have HG2 := Lib.hid hg2; have HAW := Lib.hid haw; have HT := Lib.hid hT; have HU := Lib.hid hU
  clear hg1 hg2 haw hT hU hl
  obtain ⟨k, v, e⟩ := h
  obtain ⟨k', v', e'⟩ := h'
  have HBOX := Lib.hid (hbox (.cells #[.int .u8 k, .int .i64 v, .slice pe ne ce, .slice p l c] 25) (.cells #[.int .u8 k', .int .i64 v', .slice pe' ne' ce', .slice p' l' c'] 25))
  clear hbox
  cases hgt : greatT t
  · have hst := small_eff hgt
    have ht5 := eff_more (m := 100000) (by omega) hst.2
    cases hgu : greatT u
    · have hsu := small_eff hgu
      have hu5 := eff_more (m := 100000) (by omega) hsu.2
      have hr := fun W (hb : Below w.heap.size w W) => refSame_walk (wt t) t u ⟨k, v, e⟩ ⟨k', v', e'⟩ pe pe' ne ce ne' ce' p p' l c l' c' W (Nat.le_refl _) (HT.out.below hb) (HU.out.below hb) ht5 hu5
      have h1 := fun W (hb : Below w.heap.size w W) => same_walk (wt t) t u ⟨k, v, e⟩ ⟨k', v', e'⟩ pe pe' ne ce ne' ce' p p' l c l' c' W (Nat.le_refl _) (HT.out.below hb) (HU.out.below hb) ht5 hu5
      have h2 := fun W (hb : Below w.heap.size w W) => same_walk (wt u) u t ⟨k', v', e'⟩ ⟨k, v, e⟩ pe' pe ne' ce' ne ce p' p l' c' l c W (Nat.le_refl _) (HU.out.below hb) (HT.out.below hb) hu5 ht5
      have h3 := fun W (hb : Below w.heap.size w W) => same_walk (wt t) t t ⟨k, v, e⟩ ⟨k, v, e⟩ pe pe ne ce ne ce p p l c l c W (Nat.le_refl _) (HT.out.below hb) (HT.out.below hb) ht5 ht5
      rw [same_comm u t] at h2
      rw [same_self t] at h3
      have HR := Lib.hid hr; have H1 := Lib.hid h1; have H2 := Lib.hid h2; have H3 := Lib.hid h3; have HGT := Lib.hid hgt; have HGU := Lib.hid hgu
      clear hst ht5 hsu hu5 hr h1 h2 h3 hgt hgu HT HU
      generalize sameT t u = sb at *
      go_enter Tryz.func4, Tryz.ntmps4
      go_wp2_with (fail)
      refine (HG1.out _ HBOX.out).mono ?_
      rintro en w1 ⟨rfl, hb1⟩
      obtain ⟨⟨a0, a1, a2, a3⟩, b0, b1, b2, b3⟩ := boxes hb1
      have HB1 := Lib.hid hb1; have HW1 := Lib.hid (below_then HBOX.out hb1 HBOX.out.size)
      clear hb1
      rw [HGT.out]
      go_wp2_with (fail)
      refine (HG2.out _ HW1.out).mono ?_
      rintro en w2 ⟨rfl, hb2⟩
      have hb2' := below_then HB1.out hb2 HB1.out.size
      have HB2 := Lib.hid hb2'; have HW2 := Lib.hid (below_then HW1.out hb2 HW1.out.size)
      clear a0 a1 a2 a3 b0 b1 b2 b3
      obtain ⟨⟨a0, a1, a2, a3⟩, b0, b1, b2, b3⟩ := boxes hb2'
      clear hb2 hb2'
      rw [HGU.out]
      go_wp2_with (fail)
      refine (HR.out _ HW2.out).mono ?_
      rintro en w3 ⟨rfl, hb3⟩
      have hb3' := below_then HB2.out hb3 HB2.out.size
      have HB3 := Lib.hid hb3'; have HW3 := Lib.hid (below_then HW2.out hb3 HW2.out.size)
      clear a0 a1 a2 a3 b0 b1 b2 b3
      obtain ⟨⟨a0, a1, a2, a3⟩, b0, b1, b2, b3⟩ := boxes hb3'
      clear hb3 hb3'
      go_wp2_with (fail)
      refine (H1.out _ HW3.out).mono ?_
      rintro en w4 ⟨rfl, hb4⟩
      have hb4' := below_then HB3.out hb4 HB3.out.size
      have HB4 := Lib.hid hb4'; have HW4 := Lib.hid (below_then HW3.out hb4 HW3.out.size)
      clear a0 a1 a2 a3 b0 b1 b2 b3
      obtain ⟨⟨a0, a1, a2, a3⟩, b0, b1, b2, b3⟩ := boxes hb4'
      clear hb4 hb4'
      have e1 : (sb == sb) = true := by simp
      go_wp2_with (fail)
      refine (H2.out _ HW4.out).mono ?_
      rintro en w5 ⟨rfl, hb5⟩
      have hb5' := below_then HB4.out hb5 HB4.out.size
      have HB5 := Lib.hid hb5'; have HW5 := Lib.hid (below_then HW4.out hb5 HW4.out.size)
      clear a0 a1 a2 a3 b0 b1 b2 b3
      obtain ⟨⟨a0, a1, a2, a3⟩, b0, b1, b2, b3⟩ := boxes hb5'
      clear hb5 hb5'
      go_wp2_with (fail)
      refine (H3.out _ HW5.out).mono ?_
      rintro en w6 ⟨rfl, hb6⟩
      have HW6 := Lib.hid (below_then HW5.out hb6 HW5.out.size)
      clear hb6 a0 a1 a2 a3 b0 b1 b2 b3
      go_wp2_with (fail)
      refine (HAW.out _ HW6.out).mono ?_
      rintro en w7 ⟨rfl, hb7⟩
      have HW7 := Lib.hid (below_then HW6.out hb7 HW6.out.size)
      clear hb7
      go_wp2_with (fail)
      go_ret
      exact ⟨rfl, HW7.out⟩
    · have HGT := Lib.hid hgt; have HGU := Lib.hid hgu
      clear hst ht5 hgt hgu HT HU
      go_enter Tryz.func4, Tryz.ntmps4
      go_wp2_with (fail)
      refine (HG1.out _ HBOX.out).mono ?_
      rintro en w1 ⟨rfl, hb1⟩
      obtain ⟨⟨a0, a1, a2, a3⟩, b0, b1, b2, b3⟩ := boxes hb1
      have HW1 := Lib.hid (below_then HBOX.out hb1 HBOX.out.size)
      clear hb1
      rw [HGT.out]
      go_wp2_with (fail)
      refine (HG2.out _ HW1.out).mono ?_
      rintro en w2 ⟨rfl, hb2⟩
      have HW2 := Lib.hid (below_then HW1.out hb2 HW1.out.size)
      clear hb2 a0 a1 a2 a3 b0 b1 b2 b3
      rw [HGU.out]
      go_wp2_with (fail)
      refine (HAW.out _ HW2.out).mono ?_
      rintro en w3 ⟨rfl, hb3⟩
      have HW3 := Lib.hid (below_then HW2.out hb3 HW2.out.size)
      clear hb3
      go_wp2_with (fail)
      go_ret
      exact ⟨rfl, HW3.out⟩
  · have HGT := Lib.hid hgt
    clear hgt HT HU
    go_enter Tryz.func4, Tryz.ntmps4
    go_wp2_with (fail)
    refine (HG1.out _ HBOX.out).mono ?_
    rintro en w1 ⟨rfl, hb1⟩
    have HW1 := Lib.hid (below_then HBOX.out hb1 HBOX.out.size)
    clear hb1
    rw [HGT.out]
    go_wp2_with (fail)
    refine (HAW.out _ HW1.out).mono ?_
    rintro en w2 ⟨rfl, hb2⟩
    have HW2 := Lib.hid (below_then HW1.out hb2 HW1.out.size)
    clear hb2
    go_wp2_with (fail)
    go_ret
    exact ⟨rfl, HW2.out⟩
end Rt
end Go.Proofs.YtabegjpledammaaGreatDoor
namespace Go.Proofs.YtabegjpledammaaGreatDoor
open Go.RowKit
set_option linter.unusedVariables false
set_option linter.unusedSimpArgs false
namespace Effect

theorem insI_no {x : Int} : ∀ {l : List Int}, (∀ y ∈ l, ¬ x < y) → insI x l = l ++ [x]
  | [], _ => rfl
  | y :: l, h => by
    unfold insI
    rw [if_neg (h y (by simp)), insI_no fun z hz => h z (by simp [hz])]
    rfl
theorem insI_at {x z : Int} : ∀ {l : List Int}, (∀ y ∈ l, ¬ x < y) → x < z → insI x (l ++ [z]) = l ++ [x] ++ [z]
  | [], _, hz => by simp [insI, hz]
  | y :: l, h, hz => by
    rw [List.cons_append]
    unfold insI
    rw [if_neg (h y (by simp)), insI_at (fun z hz => h z (by simp [hz])) hz]
    rfl
theorem insI_yes {x : Int} {m : List Int} : ∀ {l : List Int}, (∃ y ∈ l, x < y) → insI x (l ++ m) = insI x l ++ m
  | [], h => by obtain ⟨y, hy, _⟩ := h; cases hy
  | y :: l, h => by
    rw [List.cons_append]
    unfold insI
    split
    · rfl
    · rename_i hn
      rw [insI_yes (l := l) (by
        obtain ⟨z, hz, h1⟩ := h
        rcases List.mem_cons.1 hz with rfl | hz
        · exact absurd h1 hn
        · exact ⟨z, hz, h1⟩)]
      rfl
def InsI (x : Int) (d : Bool) (l o : List Int) : Prop := (d = false ∧ o = l ∧ ∀ y ∈ l, ¬ x < y) ∨ (d = true ∧ o = insI x l ∧ ∃ y ∈ l, x < y)
theorem InsI.len_no {x : Int} {l o : List Int} (h : InsI x false l o) : o.length = l.length := by
  rcases h with ⟨_, rfl, _⟩ | ⟨h, _⟩
  · rfl
  · cases h
theorem InsI.step_no {x z : Int} {l o : List Int} (h : InsI x false l o) (hz : ¬ x < z) : InsI x false (l ++ [z]) (o ++ [z]) := by
  rcases h with ⟨_, rfl, h⟩ | ⟨h, _⟩
  · exact .inl ⟨rfl, rfl, fun y hy => by
      rcases List.mem_append.1 hy with hy | hy
      · exact h y hy
      · rw [List.mem_singleton] at hy; rw [hy]; exact hz⟩
  · cases h
theorem InsI.step_at {x z : Int} {l o : List Int} (h : InsI x false l o) (hz : x < z) : InsI x true (l ++ [z]) (o ++ [x] ++ [z]) := by
  rcases h with ⟨_, rfl, h⟩ | ⟨h, _⟩
  · exact .inr ⟨rfl, (insI_at h hz).symm, z, by simp, hz⟩
  · cases h
theorem InsI.step_yes {x z : Int} {l o : List Int} (h : InsI x true l o) : InsI x true (l ++ [z]) (o ++ [z]) := by
  rcases h with ⟨h, _⟩ | ⟨_, rfl, h⟩
  · cases h
  · refine .inr ⟨rfl, (insI_yes h).symm, ?_⟩
    obtain ⟨y, hy, h1⟩ := h
    exact ⟨y, by simp [hy], h1⟩
theorem InsI.end_no {x : Int} {l o : List Int} (h : InsI x false l o) : o ++ [x] = insI x l := by
  rcases h with ⟨_, rfl, h⟩ | ⟨h, _⟩
  · exact (insI_no h).symm
  · cases h
theorem InsI.end_yes {x : Int} {l o : List Int} (h : InsI x true l o) : o = insI x l := by
  rcases h with ⟨h, _⟩ | ⟨_, h, _⟩
  · cases h
  · exact h
theorem ixs_new {B : Nat} {w : World} (hB : B ≤ w.heap.size) : Ixs B (w.alloc (.cells #[] 3)) (.slice (some ⟨w.heap.size, 0, none⟩) 0 0) 0 [] :=
  ⟨rfl, .inr ⟨w.heap.size, 0, #[], rfl, hB, heap_alloc_new w _, Nat.le_refl _, by unfold maxLen; omega, rfl, rfl⟩⟩
theorem ixs_len {B n : Nat} {w : World} {v : Value} {l : List Int} (h : Ixs B w v n l) : l.length = n := by
  have := h.1; unfold intsV at this; rw [List.length_map] at this; omega
theorem Ixs.push {B m : Nat} {w' : World} {v' : Value} {l : List Int} {x : Int} (h : w'.ownsRow B 3 1 v' (m + 1) (intsV l ++ intsV [x])) : Ixs B w' v' (m + 1) (l ++ [x]) := by
  unfold Ixs intsV at *
  rw [List.map_append]
  exact h
set_option maxRecDepth 100000 in
set_option maxHeartbeats 12800000 in
theorem refPutInt_walk {B n c : Nat} {a : Option Addr} {l : List Int} {x : Int} {w : World} (h : Ixs B w (.slice a n c) n l) (hB : B ≤ w.heap.size) (hok : ∀ y ∈ l, -9223372036854775808 ≤ y ∧ y ≤ 9223372036854775807) (hn : n ≤ 90000) : Calls Tryz.prog 21 #[.slice a n c, .int .i64 x] w fun e w' => ∃ a' m c', e = .returned (.slice a' m c') ∧ m ≤ n + 1 ∧ Ixs B w' (.slice a' m c') m (putI l x) ∧ Below w.heap.size w w' := by
  have hll := ixs_len h
  have hrd := RdI.of_own h hok
  obtain ⟨i0, hi, hz0, hz2, hz3⟩ := int_parts
  have HI := Lib.hid hi; have HZ0 := Lib.hid hz0; have HZ2 := Lib.hid hz2; have HZ3 := Lib.hid hz3
  have H := Lib.hid h; have HR := Lib.hid hrd; have HB := Lib.hid hB
  have HIN := Lib.hid (refInts_walk (c := c) hrd (by omega) x)
  clear h hB hok hrd hi hz0 hz2 hz3 hll
  go_enter Tryz.func21, Tryz.ntmps21
  go_wp2_with (fail)
  refine HIN.out.mono ?_
  rintro e w ⟨rfl, rfl⟩
  cases hin : l.contains x with
  | true =>
    have HIN2 := Lib.hid hin
    clear hin HIN
    go_wp2_with (fail)
    go_ret
    exact ⟨a, n, c, rfl, by omega, by unfold putI; rw [if_pos HIN2.out]; exact H.out, Below.refl _ _⟩
  | false =>
    have HIN2 := Lib.hid hin
    clear hin HIN
    go_wp2_with (fail)
    go_loopw [5, 6, 7, 15] (fun own dn _ i wr => ∃ (j m c1 : Nat) (a1 : Option Addr) (d : Bool) (o : List Int), j ≤ n ∧ m ≤ j + 1 ∧ i = .int .i64 (j : Int) ∧ dn = .bool d ∧ own = .slice a1 m c1 ∧ Hid (InsI x d (l.take j) o) ∧ Hid (Ixs w.heap.size wr (.slice a1 m c1) m o) ∧ Hid (Below w.heap.size w wr)) (fun _ _ _ i _ => n - (intOf i).toNat)
    case atStart => exact ⟨0, 0, 0, some ⟨w.heap.size, 0, none⟩, false, [], Nat.zero_le _, Nat.zero_le _, rfl, rfl, rfl, Lib.hid (.inl ⟨rfl, by simp, by simp⟩), Lib.hid (ixs_new (Nat.le_refl _)), Lib.hid (al_new _)⟩
    case round =>
      obtain ⟨j, m, c1, a1, d, o, hj, hmj, rfl, rfl, rfl, HIA, HRW, HS⟩ := hrel
      by_cases hlt : j < n
      · have hjl : j < l.length := by rw [HR.out.len]; exact hlt
        obtain ⟨b, p, rfl, eb⟩ := HR.out.get j hjl
        have hbl := World.block_lt_of_cell? w _ eb
        have htk := ints_take l j hjl
        generalize nget l j = z at *
        have HTK := Lib.hid htk; have HE := Lib.hid eb; have HBL := Lib.hid hbl
        have e0 := (HS.out.cell (p := ⟨b, p + j, none⟩) hbl).trans eb
        clear htk hjl hbl eb
        cases d
        · by_cases hz : x < z
          · have hzd : decide (x < z) = true := decide_eq_true hz
            have HZL := Lib.hid hz
            have hml := HIA.out.len_no
            have hmo := ixs_len HRW.out
            rw [List.length_take] at hml
            have hmj2 : m ≤ j := by omega
            clear hml hmo hz
            go_wp2_with (first | (at_builtin; refine wpList_append_own_at _ rfl (.tmp 28) (.tmp 30) 41 rfl w.heap.size 3 i0 _ 1 8 Tryz.underlying41 HI.out HZ0.out HZ2.out HZ3.out rfl (by omega) (.slice a1 m c1) m (intsV o) rfl (own_below HRW.out (al_new _)) _ 1 1 (intsV [x]) rfl rfl (new_int rfl) (by simp [intsV, Value.oneCell']) (by unfold maxLen; omega) (by omega) (by have := HS.out.size; simp; omega) ?_; intro v' w5 hown hgr hnil hat; obtain ⟨a3, c3', rfl, -, -⟩ := own_slice hown; have HR3 := Lib.hid (Ixs.push hown); have HS3 := Lib.hid ((below_then HS.out (al_new _) HS.out.size).grown hgr (by have := HS.out.size; simp; omega) fun g hg => (HRW.out.lt g hg).1); clear hown hgr hnil hat; have e0 := (HS3.out.cell (p := ⟨b, p + j, none⟩) HBL.out).trans HE.out) | (at_builtin; refine wpList_append_own_at _ rfl (.tmp 32) (.tmp 37) 41 rfl w.heap.size 3 i0 _ 1 8 Tryz.underlying41 HI.out HZ0.out HZ2.out HZ3.out rfl (by omega) (.slice a3 (m + 1) c3') (m + 1) (intsV (o ++ [x])) rfl (own_below HR3.out (al_new _)) _ 1 1 (intsV [z]) rfl rfl (new_int rfl) (by simp [intsV, Value.oneCell']) (by unfold maxLen; omega) (by omega) (by have := HS3.out.size; simp; omega) ?_; intro v' w6 hown hgr hnil hat; obtain ⟨a4, c4', rfl, -, -⟩ := own_slice hown; have HR4 := Lib.hid (Ixs.push hown); have HS5 := Lib.hid ((below_then HS3.out (al_new _) HS3.out.size).grown hgr (by have := HS3.out.size; simp; omega) fun g hg => (HR3.out.lt g hg).1); clear hown hgr hnil hat))
            go_roundw
            case rel => exact ⟨j + 1, m + 1 + 1, c4', a4, true, o ++ [x] ++ [z], by omega, by omega, by go_num, rfl, rfl, Lib.hid (by rw [HTK.out]; exact HIA.out.step_at HZL.out), HR4, HS5⟩
            case measure => simp [intOf]; omega
          · have hzd : decide (x < z) = false := decide_eq_false hz
            have HZL := Lib.hid hz
            clear hz
            go_wp2_with (at_builtin; refine wpList_append_own_at _ rfl (.tmp 32) (.tmp 37) 41 rfl w.heap.size 3 i0 _ 1 8 Tryz.underlying41 HI.out HZ0.out HZ2.out HZ3.out rfl (by omega) (.slice a1 m c1) m (intsV o) rfl (own_below HRW.out (al_new _)) _ 1 1 (intsV [z]) rfl rfl (new_int rfl) (by simp [intsV, Value.oneCell']) (by unfold maxLen; omega) (by omega) (by have := HS.out.size; simp; omega) ?_; intro v' w5 hown hgr hnil hat; obtain ⟨a3, c3', rfl, -, -⟩ := own_slice hown; have HR3 := Lib.hid (Ixs.push hown); have HS3 := Lib.hid ((below_then HS.out (al_new _) HS.out.size).grown hgr (by have := HS.out.size; simp; omega) fun g hg => (HRW.out.lt g hg).1); clear hown hgr hnil hat)
            go_roundw
            case rel => exact ⟨j + 1, m + 1, c3', a3, false, o ++ [z], by omega, by omega, by go_num, rfl, rfl, Lib.hid (by rw [HTK.out]; exact HIA.out.step_no HZL.out), HR3, HS3⟩
            case measure => simp [intOf]; omega
        · go_wp2_with (at_builtin; refine wpList_append_own_at _ rfl (.tmp 32) (.tmp 37) 41 rfl w.heap.size 3 i0 _ 1 8 Tryz.underlying41 HI.out HZ0.out HZ2.out HZ3.out rfl (by omega) (.slice a1 m c1) m (intsV o) rfl (own_below HRW.out (al_new _)) _ 1 1 (intsV [z]) rfl rfl (new_int rfl) (by simp [intsV, Value.oneCell']) (by unfold maxLen; omega) (by omega) (by have := HS.out.size; simp; omega) ?_; intro v' w5 hown hgr hnil hat; obtain ⟨a3, c3', rfl, -, -⟩ := own_slice hown; have HR3 := Lib.hid (Ixs.push hown); have HS3 := Lib.hid ((below_then HS.out (al_new _) HS.out.size).grown hgr (by have := HS.out.size; simp; omega) fun g hg => (HRW.out.lt g hg).1); clear hown hgr hnil hat)
          go_roundw
          case rel => exact ⟨j + 1, m + 1, c3', a3, true, o ++ [z], by omega, by omega, by go_num, rfl, rfl, Lib.hid (by rw [HTK.out]; exact HIA.out.step_yes), HR3, HS3⟩
          case measure => simp [intOf]; omega
      · obtain rfl : j = n := by omega
        have hia := HIA.out
        rw [List.take_of_length_le (by rw [HR.out.len]; exact Nat.le_refl _)] at hia
        have HIE := Lib.hid hia
        clear hia
        cases d
        · have hml := HIE.out.len_no
          have hmo := ixs_len HRW.out
          rw [HR.out.len] at hml
          have hmj2 : m ≤ j := by omega
          clear hml hmo
          go_wp2_with (at_builtin; refine wpList_append_own_at _ rfl (.tmp 42) (.tmp 44) 41 rfl w.heap.size 3 i0 _ 1 8 Tryz.underlying41 HI.out HZ0.out HZ2.out HZ3.out rfl (by omega) (.slice a1 m c1) m (intsV o) rfl (own_below HRW.out (al_new _)) _ 1 1 (intsV [x]) rfl rfl (new_int rfl) (by simp [intsV, Value.oneCell']) (by unfold maxLen; omega) (by omega) (by have := HS.out.size; simp; omega) ?_; intro v' w5 hown hgr hnil hat; obtain ⟨a3, c3', rfl, -, -⟩ := own_slice hown; have HR3 := Lib.hid (Ixs.push hown); have HS3 := Lib.hid ((below_then HS.out (al_new _) HS.out.size).grown hgr (by have := HS.out.size; simp; omega) fun g hg => (HRW.out.lt g hg).1); clear hown hgr hnil hat)
          go_ret
          exact ⟨_, m + 1, _, rfl, by omega, by unfold putI; rw [if_neg (by rw [HIN2.out]; simp), ← HIE.out.end_no]; exact own_lower HR3.out HB.out, HS3.out⟩
        · go_wp2_with (fail)
          go_ret
          exact ⟨_, m, _, rfl, by omega, by unfold putI; rw [if_neg (by rw [HIN2.out]; simp), ← HIE.out.end_yes]; exact own_lower HRW.out HB.out, HS.out⟩
end Effect
end Go.Proofs.YtabegjpledammaaGreatDoor
