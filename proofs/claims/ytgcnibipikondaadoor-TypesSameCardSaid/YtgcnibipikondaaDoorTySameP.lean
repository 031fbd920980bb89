/- The walk of the program's Same. -/
import Derived.Test.YtgcnibipikondaaDoorTyProg
namespace Go.Proofs.YtgcnibipikondaaDoor
open Go.RowKit
set_option linter.unusedVariables false
namespace Types

/-- What is asked of Same by the one that goes through kids. -/
def SameOf (m : Nat) : Prop := ∀ (t u : Ty) (h h' : Hd) (p p' : Option Addr) (l c l' c' : Nat) (w : World), wt t ≤ m → TyIs w h p l c t → TyIs w h' p' l' c' u →
    Calls Tryd.prog 20 #[.agg #[.int .u8 h.k, .int .i64 h.v, .slice p l c],
      .agg #[.int .u8 h'.k, .int .i64 h'.v, .slice p' l' c']] w fun e w' => e = .returned (.bool (sameT t u)) ∧ Below w.heap.size w w'

set_option maxRecDepth 10000 in
set_option maxHeartbeats 6400000 in
theorem equal_walk (m : Nat) (hS : SameOf m) (ts us : List Ty) (p p' : Option Addr) (l c l' c' : Nat) (w : World) (hm : wts ts ≤ m) (hl : ts.length = l) (hl' : us.length = l') (hlm : l ≤ maxLen) (hlm' : l' ≤ maxLen) (hk : Kids w p ts) (hk' : Kids w p' us) :
    Calls Tryd.prog 35 #[.slice p l c, .slice p' l' c', .func (.func 20) #[] #[]] w fun e w' => e = .returned (.bool (decide (l = l') && sameK ts us)) ∧ Below w.heap.size w w' := by
  unfold maxLen at hlm hlm'
  have HS := Lib.hid hS; have HM := Lib.hid hm; have HL := Lib.hid hl; have HL' := Lib.hid hl'; have HK := Lib.hid hk; have HK' := Lib.hid hk'
  clear hS hm hl hl' hk hk'
  by_cases hll : l ≠ l'
  · have n1 : ((l : Int) == (l' : Int)) = false := by rw [beq_eq_false_iff_ne]; omega
    have n2 : ((l : Int) != (l' : Int)) = true := by rw [bne, n1]; rfl
    have hd : (decide (l = l') && sameK ts us) = false := by simp [hll]
    have HD := Lib.hid hd
    clear hd hll
    go_enter Tryd.func35, Tryd.ntmps35
    go_wp2_with (fail)
    go_ret
    exact ⟨ret_bool HD.out.symm, Below.refl _ _⟩
  have hll' : l = l' := Classical.not_not.1 hll
  clear hll
  subst hll'
  have hd : (decide (l = l) && sameK ts us) = sameK ts us := by simp
  have HD := Lib.hid hd
  clear hd hlm'
  go_enter Tryd.func35, Tryd.ntmps35
  go_wp2_with (fail)
  go_loopw [7, 8, 9, 17] (fun _ _ _ i wr => ∃ j : Nat, j ≤ l ∧ i = .int .i64 j ∧ Hid (sameK ts us = sameK (ts.drop j) (us.drop j)) ∧ Hid (Below w.heap.size w wr)) (fun _ _ _ i _ => l - (intOf i).toNat)
  case atStart => exact ⟨0, Nat.zero_le _, rfl, Lib.hid (by rw [List.drop_zero, List.drop_zero]), Lib.hid (Below.refl _ _)⟩
  case round =>
    obtain ⟨j, hj, rfl, HSK, HW⟩ := hrel
    by_cases hlt : j < l
    · have hjk : j < ts.length := by rw [HL.out]; exact hlt
      have hjk' : j < us.length := by rw [HL'.out]; exact hlt
      obtain ⟨b, o, q, d, rfl, hkid, c0, c1, c2⟩ := (HK.out.stay HW.out).get j hjk
      obtain ⟨b', o', q', d', rfl, hkid', e0, e1, e2⟩ := (HK'.out.stay HW.out).get j hjk'
      have hbox : ∀ O O' : Obj, Below wr.heap.size wr ((wr.alloc O).alloc O') := fun O O' => ((Below.refl _ _).alloc (Nat.le_refl _) O).alloc (by simp) O'
      have hwk := wts_get hjk
      have hbl := World.block_lt_of_cell? wr _ e0
      simp only at hbl
      have HKI := Lib.hid hkid; have HKI' := Lib.hid hkid'; have HBOX := Lib.hid hbox; have HJ := Lib.hid hjk; have HJ' := Lib.hid hjk'; have HWK := Lib.hid hwk
      clear hkid hkid' hbox hjk hjk' hwk
      go_wp2_with (fail)
      refine (HS.out (tget ts j) (tget us j) _ _ q q' _ d _ d' _ (by have := HM.out; have := HWK.out; omega) (HKI.out.below (HBOX.out _ _)) (HKI'.out.below (HBOX.out _ _))).mono ?_
      rintro e w2 ⟨rfl, hb2⟩
      have HW2 := Lib.hid (HW.out.trans ((HBOX.out _ _).mono HW.out.size |>.trans (hb2.mono (Nat.le_trans HW.out.size (HBOX.out _ _).size))))
      clear hb2 hbl c0 c1 c2 e0 e1 e2
      cases hs : sameT (tget ts j) (tget us j)
      · have hno := sameK_no HJ.out HJ'.out hs
        have HNO := Lib.hid hno
        clear hno hs
        go_wp2
        go_ret
        exact ⟨ret_bool (by rw [HD.out, HSK.out, HNO.out]), HW2.out⟩
      · have hgo := sameK_go HJ.out HJ'.out hs
        have HGO := Lib.hid hgo
        clear hgo hs
        go_wp2
        go_roundw
        case rel => exact ⟨j + 1, by omega, by go_num, Lib.hid (HSK.out.trans HGO.out), HW2⟩
        case measure => simp [intOf]; omega
    · obtain rfl : j = l := by omega
      have hr2 := HSK.out
      rw [List.drop_eq_nil_of_le (by rw [HL.out]; exact Nat.le_refl _), sameK_nil] at hr2
      have HR2 := Lib.hid hr2
      clear hr2
      go_wp2
      go_ret
      exact ⟨ret_bool (by rw [HD.out, HR2.out]), HW.out⟩

set_option maxRecDepth 100000 in
set_option maxHeartbeats 6400000 in
theorem same_walk : ∀ m : Nat, SameOf m := by
  intro m
  induction m with
  | zero => intro t u h h' p p' l c l' c' w hm; have := wt_pos t; omega
  | succ m ih =>
    intro t u h h' p p' l c l' c' w hm hT hU
    have hlc : l ≤ maxLen := Nat.le_trans hT.cap.1 hT.cap.2
    have hlc' : l' ≤ maxLen := Nat.le_trans hU.cap.1 hU.cap.2
    have hs0 := sameT_eq t u
    rw [hT.head, hU.head, hT.len, hU.len] at hs0
    obtain ⟨k, v⟩ := h
    obtain ⟨k', v'⟩ := h'
    have hks : wts t.ks ≤ m := by have := wt_ks t; omega
    have hbox : ∀ O O' : Obj, Below w.heap.size w ((w.alloc O).alloc O') := fun O O' => ((Below.refl _ _).alloc (Nat.le_refl _) O).alloc (by simp) O'
    have hE := fun W (hb : Below w.heap.size w W) => equal_walk m ih t.ks u.ks p p' l c l' c' W hks hT.len hU.len hlc hlc' (hT.kids.stay hb) (hU.kids.stay hb)
    have HE := Lib.hid hE; have HBOX := Lib.hid hbox
    clear ih hT hU hks hbox hE hm
    simp only at hs0
    by_cases hk : k = k'
    · subst hk
      by_cases hv : v = v'
      · subst hv
        have hs1 : sameT t u = (decide (l = l') && sameK t.ks u.ks) := by rw [hs0]; simp
        have HS0 := Lib.hid hs1
        have n1 : (k == k) = true := by simp
        have n3 : (v == v) = true := by simp
        clear hs0 hs1
        go_enter Tryd.func20, Tryd.ntmps20
        go_wp2_with (fail)
        refine (HE.out _ (HBOX.out _ _)).mono ?_
        rintro e w1 ⟨rfl, hb1⟩
        have HB1 := Lib.hid ((HBOX.out _ _).trans (hb1.mono (HBOX.out _ _).size)); clear hb1
        cases hr : (decide (l = l') && sameK t.ks u.ks)
        all_goals
          have HR := Lib.hid hr
          clear hr
          go_wp2
          go_ret
          exact ⟨ret_bool (by rw [HS0.out, HR.out]), HB1.out⟩
      · have hfalse : sameT t u = false := by rw [hs0]; simp [hv]
        have HF := Lib.hid hfalse
        have n1 : (k == k) = true := by simp
        have n3 : (v == v') = false := by simpa using hv
        clear hs0 hfalse hv
        go_enter Tryd.func20, Tryd.ntmps20
        go_wp2_with (fail)
        go_ret
        exact ⟨ret_bool HF.out.symm, HBOX.out _ _⟩
    · have hfalse : sameT t u = false := by rw [hs0]; simp [hk]
      have HF := Lib.hid hfalse
      have n1 : (k == k') = false := by simpa using hk
      clear hs0 hfalse hk
      go_enter Tryd.func20, Tryd.ntmps20
      go_wp2_with (fail)
      go_ret
      exact ⟨ret_bool HF.out.symm, HBOX.out _ _⟩
end Types
end Go.Proofs.YtgcnibipikondaaDoor
