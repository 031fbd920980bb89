/- The walk of the document's May. -/
import Derived.Test.YtlmaphaipcfppaaGreatDoorTermNodeF
import Derived.Test.YtlmaphaipcfppaaGreatDoorTermOwn
import Derived.Test.YtlmaphaipcfppaaGreatDoorTermOk
namespace Go.Proofs.YtlmaphaipcfppaaGreatDoor
open Go.RowKit
set_option linter.unusedVariables false
namespace Term

theorem refNode_walk (h : Hd) (p : Option Addr) (l c : Nat) (w : World) (ho : HdOk h) (hl : l ≤ maxLen) :
    Calls Tryz.prog 31 #[.agg #[.int .u8 h.k, .int .u8 h.op, .int .i64 h.pl, .int .i64 h.n, .string h.name, .string h.arg, .string h.exn, .slice p l c]] w fun e w' => e = .returned (.bool (nodeB h l)) ∧ Below w.heap.size w w' := by
  obtain ⟨k, op, pl, nn, nm, ar, ex⟩ := h
  obtain ⟨h1, h2, h3, h4, h5, h6, h7⟩ := ho
  simp only at h1 h2 h3 h4 h5 h6 h7
  have hl' : l ≤ 9223372036854775807 := by unfold maxLen at hl; omega
  by_cases a1 : kidsN k = l ∧ 0 ≤ pl
  · by_cases a2 : opOk ⟨k, op, pl, nn, nm, ar, ex⟩
    · by_cases a3 : nOk ⟨k, op, pl, nn, nm, ar, ex⟩
      · rw [nodeB_yes (h := ⟨k, op, pl, nn, nm, ar, ex⟩) ⟨a1.1, a1.2, a2, a3⟩]
        refine node_fits k op pl nn nm ar ex p l c w h1 h2 hl' a1.1 a1.2 ?_ h5 h6 h7
        unfold opOk at a2
        unfold nOk at a3
        simp only at a2 a3
        by_cases e9 : k = 9
        · subst e9
          rw [if_pos rfl] at a2
          exact .inl ⟨by decide, by decide, by decide, a2.1, a2.2, a3.2.2 (by omega)⟩
        · rw [if_neg e9] at a2
          by_cases e1 : k = 1
          · subst e1
            exact .inr (.inl ⟨by decide, by decide, a2, by decide, a3.1, a3.2.1⟩)
          · exact .inr (.inr ⟨by simpa using e9, by simpa using e9, a2, by simpa using e1, a3.2.2 e1⟩)
      · rw [nodeB_no (h := ⟨k, op, pl, nn, nm, ar, ex⟩) (fun h => a3 h.2.2.2)]
        exact node_ns k op pl nn nm ar ex p l c w h1 h2 hl' a1.1 a1.2 a2 a3
    · rw [nodeB_no (h := ⟨k, op, pl, nn, nm, ar, ex⟩) (fun h => a2 h.2.2.1)]
      exact node_ops k op pl nn nm ar ex p l c w h1 h2 hl' a1.1 a1.2 a2
  · rw [nodeB_no (h := ⟨k, op, pl, nn, nm, ar, ex⟩) (fun h => a1 ⟨h.1, h.2.1⟩)]
    exact node_kids k op pl nn nm ar ex p l c w h1 hl' a1

def nodeOk (t : Tm) : Bool := nodeB t.h t.ks.length
theorem ok_all : ∀ m : Nat, (∀ t, wt t ≤ m → okT t = (flatT t).all nodeOk) ∧ (∀ ts, wts ts ≤ m → okK ts = (flatK ts).all nodeOk) := by
  intro m
  induction m with
  | zero =>
    refine ⟨fun t h => by have := wt_pos t; omega, fun ts h => ?_⟩
    cases ts with
    | nil => rw [flatK_nil, okK_nil]; rfl
    | cons t ts => rw [wts_cons] at h; have := wt_pos t; omega
  | succ m ih =>
    have hT : ∀ t, wt t ≤ m + 1 → okT t = (flatT t).all nodeOk := by
      intro t h
      have hk := wt_ks t
      rw [okT_eq, flatT_eq, List.all_cons, ih.2 t.ks (by omega)]
      rfl
    refine ⟨hT, fun ts => ?_⟩
    induction ts with
    | nil => intro _; rw [flatK_nil, okK_nil]; rfl
    | cons t ts ihs =>
      intro h
      rw [wts_cons] at h
      rw [okK_cons, flatK_cons, List.all_append, hT t (by omega), ihs (by omega)]
theorem mem_tget {F : List Tm} {t : Tm} (h : t ∈ F) : ∃ j, j < F.length ∧ tget F j = t := by
  obtain ⟨j, hj, e⟩ := List.getElem_of_mem h
  refine ⟨j, hj, ?_⟩
  have := tget_at hj
  rw [List.getElem?_eq_getElem hj, e] at this
  exact (Option.some.inj this).symm
theorem ok_no {t : Tm} {j : Nat} (hj : j < (flatT t).length) (h : nodeOk (tget (flatT t) j) = false) : okT t = false := by
  rw [(ok_all (wt t)).1 t (Nat.le_refl _), Bool.eq_false_iff]
  intro ha
  have := List.all_eq_true.1 ha _ (tget_mem hj)
  rw [h] at this
  cases this
theorem ok_yes {t : Tm} (h : ∀ j, j < (flatT t).length → nodeOk (tget (flatT t) j) = true) : okT t = true := by
  rw [(ok_all (wt t)).1 t (Nat.le_refl _), List.all_eq_true]
  intro x hx
  obtain ⟨j, hj, rfl⟩ := mem_tget hx
  exact h j hj

set_option maxRecDepth 10000 in
set_option maxHeartbeats 6400000 in
theorem refMay_walk (t : Tm) (h : Hd) (p : Option Addr) (l c : Nat) (w : World) (hT : TmIs w h p l c t) (hw : wt t ≤ 4000) :
    Calls Tryz.prog 17 #[.agg #[.int .u8 h.k, .int .u8 h.op, .int .i64 h.pl, .int .i64 h.n, .string h.name, .string h.arg, .string h.exn, .slice p l c]] w fun e w' => e = .returned (.bool (mayT t)) ∧ Below w.heap.size w w' := by
  have hr : mayT t = okT t := by unfold mayT; rw [decide_eq_true hw, Bool.true_and]
  have hbox : ∀ O : Obj, Below w.heap.size w (w.alloc O) := fun O => (Below.refl _ _).alloc (Nat.le_refl _) O
  have ha := fun O => refAll_walk (wt t) t h p l c w (w.alloc O) (Nat.le_refl _) (by omega) hT (hbox O)
  have hn := fun (h' : Hd) q l' c' W ho hl => refNode_walk h' q l' c' W ho hl
  obtain ⟨k, op, pl, nn, nm, ar, ex⟩ := h
  have hfl := flatT_len t
  have HR := Lib.hid hr; have HBOX := Lib.hid hbox; have HA := Lib.hid ha; have HN := Lib.hid hn; have HFLEN := Lib.hid hfl
  clear hr hbox ha hn hT hfl
  go_enter Tryz.func17, Tryz.ntmps17
  go_wp2_with (fail)
  refine (HA.out _).mono ?_
  rintro e w1 ⟨g, cc, xs, rfl, hown, hfx, hb1⟩
  have HB1 := Lib.hid ((HBOX.out _).trans (hb1.mono (HBOX.out _).size)); have HO := Lib.hid hown; have HFX := Lib.hid hfx
  clear hb1 hown hfx
  generalize hX : wt t = n at *
  have HX := Lib.hid hX
  clear hX
  go_wp2_with (fail)
  go_loopw [4, 12] (fun _ i wr => ∃ j : Nat, j ≤ n ∧ i = .int .i64 j ∧ Hid (∀ i, i < j → nodeOk (tget (flatT t) i) = true) ∧ Hid (Below w1.heap.size w1 wr)) (fun _ i _ => n - (intOf i).toNat)
  case atStart => exact ⟨0, Nat.zero_le _, rfl, Lib.hid (fun i hi => by omega), Lib.hid (Below.refl _ _)⟩
  case round =>
    obtain ⟨j, hj, rfl, HA2, HW⟩ := hrel
    by_cases hlt : j < n
    · have hjf : j < (flatT t).length := by rw [HFLEN.out]; exact hlt
      obtain ⟨q, c2, hkid, hcells⟩ := HFX.out.get j hjf
      have hrow := own_below HO.out HW.out
      have c0 := row_cell hrow (hcells 0 _ rfl); have c1 := row_cell hrow (hcells 1 _ rfl); have c2' := row_cell hrow (hcells 2 _ rfl); have c3 := row_cell hrow (hcells 3 _ rfl)
      have c4 := row_cell hrow (hcells 4 _ rfl); have c5 := row_cell hrow (hcells 5 _ rfl); have c6 := row_cell hrow (hcells 6 _ rfl); have c7 := row_cell hrow (hcells 7 _ rfl)
      rw [Nat.add_zero] at c0
      have hok := hkid.ok
      have hcap := Nat.le_trans hkid.cap.1 hkid.cap.2
      have HOK := Lib.hid hok; have HCAP := Lib.hid hcap; have HJ := Lib.hid hjf
      clear hok hcap hkid hcells hrow hjf
      go_wp2_with (fail)
      refine (HN.out (tget (flatT t) j).h q _ c2 _ HOK.out HCAP.out).mono ?_
      rintro e w2 ⟨rfl, hb2⟩
      have HW2 := Lib.hid (below_then HW.out hb2 HW.out.size)
      clear hb2 c0 c1 c2' c3 c4 c5 c6 c7
      have hd : nodeB (tget (flatT t) j).h (tget (flatT t) j).ks.length = nodeOk (tget (flatT t) j) := rfl
      rw [hd]
      clear hd
      cases ho : nodeOk (tget (flatT t) j)
      · have hno := ok_no HJ.out ho
        have HNO := Lib.hid hno
        clear hno ho
        go_wp2
        go_ret
        exact ⟨ret_bool (by rw [HR.out, HNO.out]), below_then HB1.out HW2.out HB1.out.size⟩
      · have HYES := Lib.hid ho
        clear ho
        go_wp2
        go_roundw
        case rel =>
          refine ⟨j + 1, by omega, by go_num, Lib.hid (fun i hi => ?_), HW2⟩
          by_cases hij : i = j
          · rw [hij]; exact HYES.out
          · exact HA2.out i (by omega)
        case measure => simp [intOf]; omega
    · obtain rfl : j = n := by omega
      have hyes := ok_yes (t := t) (fun i hi => HA2.out i (by rw [HFLEN.out] at hi; exact hi))
      have HYES := Lib.hid hyes
      clear hyes
      go_wp2
      go_ret
      exact ⟨ret_bool (by rw [HR.out, HYES.out]), below_then HB1.out HW.out HB1.out.size⟩
end Term
end Go.Proofs.YtlmaphaipcfppaaGreatDoor
