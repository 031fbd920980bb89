/- The walk of EffectWithin. -/
import Derived.Test.YtggabjmfdnfckaaDoorEfRef
import Derived.Test.YtggabjmfdnfckaaDoorEfView
namespace Go.Proofs.YtggabjmfdnfckaaDoor
open Go.RowKit
set_option linter.unusedVariables false
set_option linter.unusedSimpArgs false
namespace Effect

/-! ### Mathematics -/
theorem nodup_sub {l m : List At} (hl : l.Nodup) (hs : ∀ x ∈ l, x ∈ m) : l.length ≤ m.length := by
  induction l generalizing m with
  | nil => exact Nat.zero_le _
  | cons a l ih =>
    have hc := List.nodup_cons.1 hl
    have ha := hs a (by simp)
    have h1 := ih hc.2 (m := m.erase a) fun x hx => (List.mem_erase_of_ne (fun e => hc.1 (by rw [← e]; exact hx))).2 (hs x (by simp [hx]))
    rw [List.length_erase_of_mem ha] at h1
    have := List.length_pos_of_mem ha
    rw [List.length_cons]; omega
theorem nodup_all {l m : List At} (hl : l.Nodup) (hs : ∀ x ∈ l, x ∈ m) (he : m.length ≤ l.length) : ∀ x ∈ m, x ∈ l := by
  induction l generalizing m with
  | nil => intro x hx; have := List.length_pos_of_mem hx; rw [List.length_nil] at he; omega
  | cons a l ih =>
    intro x hx
    have hc := List.nodup_cons.1 hl
    have ha := hs a (by simp)
    by_cases e : x = a
    · simp [e]
    · have h1 := ih hc.2 (m := m.erase a) (fun y hy => (List.mem_erase_of_ne (fun e => hc.1 (by rw [← e]; exact hy))).2 (hs y (by simp [hy]))) (by rw [List.length_erase_of_mem ha]; simp at he; omega) x ((List.mem_erase_of_ne e).2 hx)
      simp [h1]
theorem within_iff (l k : List At) : withinB l k = true ↔ ∀ x ∈ l, atomB x = true → x ∈ k := by
  unfold withinB
  rw [List.all_eq_true]
  constructor
  · intro h x hx ha
    have := h x hx
    rw [ha] at this
    simpa using this
  · intro h x hx
    cases ha : atomB x with
    | false => rfl
    | true => simpa using h x hx ha
theorem within_len (l k : List At) : decide ((ofA (l ++ k)).length = (ofA k).length) = withinB l k := by
  have hsub : ∀ x ∈ ofA k, x ∈ ofA (l ++ k) := fun x hx => by
    rw [mem_of] at hx ⊢
    exact ⟨List.mem_append_right _ hx.1, hx.2⟩
  by_cases h : withinB l k = true
  · rw [h]
    refine decide_eq_true (congrArg List.length (of_congr fun b hb => ?_))
    rw [List.mem_append]
    exact ⟨fun h2 => h2.elim (fun h3 => (within_iff l k).1 h b h3 hb) id, .inr⟩
  · rw [Bool.eq_false_iff.2 h]
    refine decide_eq_false fun he => h ((within_iff l k).2 fun x hx ha => ?_)
    have := nodup_all (up_of k).nodup hsub (by omega) x ((mem_of _ _).2 ⟨List.mem_append_left _ hx, ha⟩)
    exact ((mem_of _ _).1 this).1
theorem same_iff (l k : List At) : decide (ofA l = ofA k) = (withinB l k && withinB k l) := by
  by_cases h : withinB l k = true ∧ withinB k l = true
  · rw [h.1, h.2]
    exact decide_eq_true (of_congr fun b hb => ⟨fun h2 => (within_iff l k).1 h.1 b h2 hb, fun h2 => (within_iff k l).1 h.2 b h2 hb⟩)
  · have e : (withinB l k && withinB k l) = false := by
      rw [Bool.eq_false_iff]
      intro h2
      exact h (Bool.and_eq_true_iff.1 h2)
    rw [e]
    refine decide_eq_false fun he => h ⟨(within_iff l k).2 fun x hx ha => ?_, (within_iff k l).2 fun x hx ha => ?_⟩
    · have : x ∈ ofA k := by rw [← he]; exact (mem_of _ _).2 ⟨hx, ha⟩
      exact ((mem_of _ _).1 this).1
    · have : x ∈ ofA l := by rw [he]; exact (mem_of _ _).2 ⟨hx, ha⟩
      exact ((mem_of _ _).1 this).1
theorem in_union {l m : List At} (h : ∀ x ∈ l, x ∈ m) : (ofA (l ++ ofA m)).length = (ofA (ofA m)).length := by
  refine congrArg List.length (of_congr fun b hb => ?_)
  rw [List.mem_append, mem_of]
  exact ⟨fun h2 => h2.elim (fun h3 => ⟨h b h3, hb⟩) id, .inr⟩
theorem union_turns (l k : List At) : ofA (ofA (l ++ k)) = ofA (ofA (k ++ l)) := by
  rw [of_of, of_of]
  exact of_congr fun b _ => by rw [List.mem_append, List.mem_append]; exact Or.comm

set_option maxRecDepth 100000 in
set_option maxHeartbeats 6400000 in
theorem unionR {n m c d : Nat} {a b : Option Addr} {l k : List At} {w W : World} (h : Rd w n a l) (h2 : Rd w m b k) (hn : n ≤ 10000) (hm : m ≤ 10000) (ty : TypeId) (hW : W = w.alloc (.cells #[.slice a n c, .slice b m d] ty)) : Calls Tryd.prog 19 #[.slice (some ⟨w.heap.size, 0, none⟩) 2 2] W fun e w' => ∃ a' u c', e = .returned (.slice a' u c') ∧ u ≤ n + m ∧ Rd w' u a' (ofA (l ++ k)) ∧ Below w.heap.size w w' := by
  subst hW
  have he : [l, k].flatten = l ++ k := by simp
  refine (union_walk 2 2 (some ⟨w.heap.size, 0, none⟩) [l, k] (w.alloc (.cells #[.slice a n c, .slice b m d] ty)) rfl (by omega) (rows_two (heap_alloc_new w _) h.len.symm h2.len.symm (h.at_.below (al_new _)) (h2.at_.below (al_new _))) (by simp [h.len, h2.len]; omega) (fun x hx => by
    simp at hx
    rcases hx with hx | hx
    · exact h.ok x hx
    · exact h2.ok x hx)).mono ?_
  rintro e w1 ⟨v, rfl, hr1, hb1⟩
  rw [he] at hr1
  obtain ⟨a1, c1, rfl⟩ := hr1.slice
  refine ⟨a1, _, c1, rfl, ?_, Rd.of_row hr1 (of_ok fun x hx => ?_), below_row (Below.refl _ _) hb1 (Nat.le_refl _)⟩
  · have := of_le (l ++ k)
    rw [List.length_append, h.len, h2.len] at this
    exact this
  · rcases List.mem_append.1 hx with hx | hx
    · exact h.ok x hx
    · exact h2.ok x hx
set_option maxRecDepth 100000 in
set_option maxHeartbeats 12800000 in
theorem effectWithin_walk (a b : Option Addr) (n m c d : Nat) (l k : List At) (w : World) (h : Rd w n a l) (h2 : Rd w m b k) (hn : n ≤ maxLen) (hm : m ≤ maxLen) (hl : NumLaid w) : Calls Tryd.prog 4 #[.slice a n c, .slice b m d] w fun e w' => e = .returned (.bool true) ∧ Below w.heap.size w w' := by
  have H := Lib.hid h; have H2 := Lib.hid h2; have HL := Lib.hid hl
  have HG1 := Lib.hid (great_walk (c := c) h hn); have HG2 := Lib.hid (great_walk (c := d) h2 hm)
  have HAW := Lib.hid (awake_walk w hl)
  clear h h2 hl
  cases hg1 : greatB l with
  | true =>
    rw [hg1] at HG1
    clear hg1
    go_enter Tryd.func4, Tryd.ntmps4
    go_wp2_with (fail)
    refine HG1.out.mono ?_
    rintro e w1 ⟨rfl, rfl⟩
    go_wp2_with (fail)
    refine HAW.out.mono ?_
    rintro e w2 ⟨rfl, hb2⟩
    have HB2 := Lib.hid hb2
    clear hb2
    go_wp2_with (fail)
    go_ret
    exact ⟨rfl, HB2.out⟩
  | false =>
    cases hg2 : greatB k with
    | true =>
      rw [hg1] at HG1
      rw [hg2] at HG2
      clear hg1 hg2
      go_enter Tryd.func4, Tryd.ntmps4
      go_wp2_with (fail)
      refine HG1.out.mono ?_
      rintro e w1 ⟨rfl, rfl⟩
      go_wp2_with (fail)
      refine HG2.out.mono ?_
      rintro e w1 ⟨rfl, rfl⟩
      go_wp2_with (fail)
      refine HAW.out.mono ?_
      rintro e w2 ⟨rfl, hb2⟩
      have HB2 := Lib.hid hb2
      clear hb2
      go_wp2_with (fail)
      go_ret
      exact ⟨rfl, HB2.out⟩
    | false =>
      have hn100 : n ≤ 100 := by have := (great_no hg1).1; rw [H.out.len] at this; exact this
      have hm100 : m ≤ 100 := by have := (great_no hg2).1; rw [H2.out.len] at this; exact this
      rw [hg1] at HG1
      rw [hg2] at HG2
      have HW1 := Lib.hid (refWithin_walk (c := c) (d := d) H.out H2.out (by omega) (by omega))
      clear hg1 hg2 hn hm
      go_enter Tryd.func4, Tryd.ntmps4
      go_wp2_with (fail)
      refine HG1.out.mono ?_
      rintro e w1 ⟨rfl, rfl⟩
      go_wp2_with (fail)
      refine HG2.out.mono ?_
      rintro e w1 ⟨rfl, rfl⟩
      go_wp2_with (fail)
      refine HW1.out.mono ?_
      rintro e w2 ⟨rfl, hb2⟩
      have HB2 := Lib.hid hb2
      have HW2 := Lib.hid (refWithin_walk (c := d) (d := c) (H2.out.below hb2) (H.out.below hb2) (by omega) (by omega))
      clear hb2
      go_wp2_with (fail)
      refine HW2.out.mono ?_
      rintro e w3 ⟨rfl, hb3⟩
      have HB3 := Lib.hid (below_then HB2.out hb3 HB2.out.size)
      have HU := Lib.hid fun W ty => unionR (c := c) (d := d) (W := W) (H.out.below HB3.out) (H2.out.below HB3.out) (by omega) (by omega) ty
      clear hb3
      generalize hb1 : withinB l k = p at *
      generalize hb2 : withinB k l = q at *
      have HP := Lib.hid hb1; have HQ := Lib.hid hb2
      clear hb1 hb2
      go_wp2_with (fail)
      refine (HU.out _ _ rfl).mono ?_
      rintro e w4 ⟨au, u, cu, rfl, hu, hru, hb4⟩
      have HRU := Lib.hid hru; have HB4 := Lib.hid (below_then HB3.out hb4 HB3.out.size)
      have HI := Lib.hid (within_walk (c := c) (d := d) (H.out.below HB4.out) (H2.out.below HB4.out) (by omega) (by omega))
      rw [within_len, HP.out] at HI
      clear hb4 hru
      go_wp2_with (fail)
      refine HI.out.mono ?_
      rintro e w5 ⟨rfl, hb5⟩
      have HRU5 := Lib.hid (HRU.out.below hb5); have HB5 := Lib.hid (below_then HB4.out hb5 HB4.out.size)
      have HS := Lib.hid (same_walk (c := c) (d := d) (H.out.below HB5.out) (H2.out.below HB5.out) (by omega) (by omega))
      rw [same_iff, HP.out, HQ.out] at HS
      clear hb5
      have hpp : (p == p) = true := by cases p <;> rfl
      go_wp2_with (fail)
      refine HS.out.mono ?_
      rintro e w6 ⟨rfl, hb6⟩
      have HRU6 := Lib.hid (HRU5.out.below hb6); have HB6 := Lib.hid (below_then HB5.out hb6 HB5.out.size)
      clear hb6
      have hqq : (q == q) = true := by cases q <;> rfl
      have HIA := Lib.hid (within_walk (c := c) (d := cu) (H.out.below HB6.out) HRU6.out (by omega) (by omega))
      rw [in_union (l := l) (m := l ++ k) (fun x hx => List.mem_append_left _ hx), decide_eq_true rfl] at HIA
      cases p
      all_goals
        simp only [Bool.false_and, Bool.true_and]
        go_wp2_with (fail)
        refine HIA.out.mono ?_
        rintro e w7 ⟨rfl, hb7⟩
        have HRU7 := Lib.hid (HRU6.out.below hb7); have HB7 := Lib.hid (below_then HB6.out hb7 HB6.out.size)
        have HIB := Lib.hid (within_walk (c := d) (d := cu) (H2.out.below HB7.out) HRU7.out (by omega) (by omega))
        rw [in_union (l := k) (m := l ++ k) (fun x hx => List.mem_append_right _ hx), decide_eq_true rfl] at HIB
        clear hb7
        go_wp2_with (fail)
        refine HIB.out.mono ?_
        rintro e w8 ⟨rfl, hb8⟩
        have HRU8 := Lib.hid (HRU7.out.below hb8); have HB8 := Lib.hid (below_then HB7.out hb8 HB7.out.size)
        have HV := Lib.hid fun W ty => unionR (c := d) (d := c) (W := W) (H2.out.below HB8.out) (H.out.below HB8.out) (by omega) (by omega) ty
        clear hb8
        go_wp2_with (fail)
        refine (HV.out _ _ rfl).mono ?_
        rintro e w9 ⟨av, v, cv, rfl, hv, hrv, hb9⟩
        have HB9 := Lib.hid (below_then HB8.out hb9 HB8.out.size)
        have HSS := Lib.hid (same_walk (c := cu) (d := cv) (HRU8.out.below hb9) hrv (by omega) (by omega))
        rw [union_turns l k, decide_eq_true rfl] at HSS
        clear hb9 hrv
        go_wp2_with (fail)
        refine HSS.out.mono ?_
        rintro e w10 ⟨rfl, hb10⟩
        have HB10 := Lib.hid (below_then HB9.out hb10 HB9.out.size)
        have HAW2 := Lib.hid (awake_walk w10 (HL.out.below HB10.out))
        clear hb10
        go_wp2_with (fail)
        refine HAW2.out.mono ?_
        rintro e w11 ⟨rfl, hb11⟩
        have HB11 := Lib.hid (below_then HB10.out hb11 HB10.out.size)
        clear hb11
        go_wp2_with (fail)
        go_ret
        exact ⟨rfl, HB11.out⟩
end Effect
end Go.Proofs.YtggabjmfdnfckaaDoor
