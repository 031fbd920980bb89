/- The document's put, and its names that are bound in a kid. -/
import Derived.Test.YtkcadkjpneoobaaDoorScopeRd
namespace Go.Proofs.YtkcadkjpneoobaaDoor
open Go.RowKit
set_option linter.unusedVariables false
set_option linter.unusedSimpArgs false
namespace Scope
open Term (Tm Hd TmIs ret_bool ret_i64 tget wt wts wts_cons wts_nil)
open Words (str_no str_yes sel StrsAt)

theorem WithD.later {ns : List ByteArray} {w W w' : World} {e : Ending} (hb : Below w.heap.size w W) (h : WithD ns W e w') : WithD ns w e w' := by
  obtain ⟨v, he, h1, h2⟩ := h
  exact ⟨v, he, h1, hb.trans (h2.mono hb.size)⟩
set_option maxHeartbeats 1600000 in
theorem putD_walk (w : World) (v : Value) (s : List ByteArray) (x : ByteArray) (h : Rd w v s) (hx : x ≠ ⟨#[]⟩) (hn : s.length ≤ 90000) :
    Calls Tryd.prog 33 #[v, .string x] w (WithD (putS x s) w) := by
  have hin := rd_in h x
  have hwd := withD_walk w v s x h hn
  cases hh : hasB s x
  · have e : putS x s = s ++ [x] := put_new hh hx
    rw [hh] at hin
    have HIN := Lib.hid hin; have HWD := Lib.hid hwd; have HE := Lib.hid e
    clear hin hwd e h hh
    go_enter Tryd.func33, Tryd.ntmps33
    go_wp2_with (fail)
    refine HIN.out.mono ?_
    rintro e w1 ⟨rfl, rfl⟩
    go_wp2_with (fail)
    refine HWD.out.mono ?_
    rintro e w1 ⟨v1, rfl, h1, h2⟩
    have H := Lib.hid (And.intro h1 h2)
    clear h1 h2
    go_wp2_with (fail)
    go_ret
    exact ⟨v1, rfl, by rw [HE.out]; exact H.out.1, H.out.2⟩
  · have e : putS x s = s := put_has hh
    rw [hh] at hin
    have HIN := Lib.hid hin; have HE := Lib.hid e; have HH := Lib.hid h
    clear hin hwd e h hh
    go_enter Tryd.func33, Tryd.ntmps33
    go_wp2_with (fail)
    refine HIN.out.mono ?_
    rintro e w1 ⟨rfl, rfl⟩
    go_wp2_with (fail)
    go_ret
    exact ⟨v, rfl, by rw [HE.out]; exact HH.out, Below.refl _ _⟩

set_option maxRecDepth 100000 in
set_option maxHeartbeats 12800000 in
theorem boundD_walk (w : World) (v : Value) (ns : List ByteArray) (k op pl nn : Int) (nm ar ex : ByteArray) (q : Option Addr) (l c i : Nat) (h : Rd w v ns) (hn : ns.length ≤ 80000) (hk : k = 13 → i = 0 ∨ i = 1) :
    Calls Tryd.prog 40 #[v, .agg #[.int .u8 k, .int .u8 op, .int .i64 pl, .int .i64 nn, .string nm, .string ar, .string ex, .slice q l c], .int .i64 (i : Int)] w (WithD (boundP ns ⟨k, op, pl, nn, nm, ar, ex⟩ i) w) := by
  have ha : Below w.heap.size w (w.alloc (.cells #[.int .u8 k, .int .u8 op, .int .i64 pl, .int .i64 nn, .string nm, .string ar, .string ex, .slice q l c] 27)) := (Below.refl _ _).alloc (Nat.le_refl _) _
  have hr := h.below ha
  have hb := heap_alloc_new w (.cells #[.int .u8 k, .int .u8 op, .int .i64 pl, .int .i64 nn, .string nm, .string ar, .string ex, .slice q l c] 27)
  have hone : ∀ x, Calls Tryd.prog 42 #[v, .string x] (w.alloc (.cells #[.int .u8 k, .int .u8 op, .int .i64 pl, .int .i64 nn, .string nm, .string ar, .string ex, .slice q l c] 27)) (WithD (ns ++ [x]) (w.alloc (.cells #[.int .u8 k, .int .u8 op, .int .i64 pl, .int .i64 nn, .string nm, .string ar, .string ex, .slice q l c] 27))) := fun x => withD_walk _ v ns x hr (by omega)
  have HA := Lib.hid ha; have HR := Lib.hid hr; have HB := Lib.hid hb; have HONE := Lib.hid hone; have HN := Lib.hid hn
  have key : ∀ (v : Int), (k = v → (k == v) = true) ∧ (k ≠ v → (k == v) = false) := fun v => ⟨fun h => by simpa using h, fun h => by simpa using h⟩
  have keyi : ((i : Int) == 1) = decide (i = 1) := by
    rw [Bool.eq_iff_iff, beq_iff_eq, decide_eq_true_eq]; omega
  have HK := Lib.hid hk
  obtain ⟨e11a, e11b⟩ := key 11
  obtain ⟨e12a, e12b⟩ := key 12
  obtain ⟨e13a, e13b⟩ := key 13
  obtain ⟨e16a, e16b⟩ := key 16
  clear ha hr hb hone hn hk key
  by_cases k11 : k = 11
  · have e11 := e11a k11
    have he : boundP ns ⟨k, op, pl, nn, nm, ar, ex⟩ i = ns ++ [ar] := if_pos (.inl k11)
    have HE := Lib.hid he
    clear he k11 e11a e11b e12a e12b e13a e13b e16a e16b keyi
    go_enter Tryd.func40, Tryd.ntmps40
    go_wp2_with (fail)
    refine (HONE.out ar).mono ?_
    rintro e w1 ⟨v1, rfl, h1, h2⟩
    have H := Lib.hid (And.intro h1 h2)
    clear h1 h2
    go_wp2_with (fail)
    go_ret
    exact WithD.later HA.out ⟨v1, rfl, by rw [HE.out]; exact H.out.1, H.out.2⟩
  have e11 := e11b k11
  by_cases k16 : k = 16
  · have e16 := e16a k16
    have e12 := e12b (by omega)
    have e13 := e13b (by omega)
    by_cases i1 : i = 1
    · have ei : ((i : Int) == 1) = true := by rw [keyi, decide_eq_true i1]
      have he : boundP ns ⟨k, op, pl, nn, nm, ar, ex⟩ i = ns ++ [ar] := if_pos (.inr ⟨k16, i1⟩)
      have HE := Lib.hid he
      clear he k16 i1 k11 e11a e11b e12a e12b e13a e13b e16a e16b keyi
      go_enter Tryd.func40, Tryd.ntmps40
      go_wp2_with (fail)
      refine (HONE.out ar).mono ?_
      rintro e w1 ⟨v1, rfl, h1, h2⟩
      have H := Lib.hid (And.intro h1 h2)
      clear h1 h2
      go_wp2_with (fail)
      go_ret
      exact WithD.later HA.out ⟨v1, rfl, by rw [HE.out]; exact H.out.1, H.out.2⟩
    · have ei : ((i : Int) == 1) = false := by rw [keyi, decide_eq_false i1]
      have he : boundP ns ⟨k, op, pl, nn, nm, ar, ex⟩ i = ns := by
        unfold boundP
        rw [if_neg (by simp only; omega), if_neg (by simp only; omega), if_neg (by simp only; omega)]
      have HE := Lib.hid he
      clear he k16 i1 k11 e11a e11b e12a e12b e13a e13b e16a e16b keyi
      go_enter Tryd.func40, Tryd.ntmps40
      go_wp2_with (fail)
      go_ret
      exact ⟨v, rfl, by rw [HE.out]; exact HR.out, HA.out⟩
  have e16 := e16b k16
  by_cases k12 : k = 12
  · have e12 := e12a k12
    have e13 := e13b (by omega)
    by_cases i1 : i = 1
    · have ei : ((i : Int) == 1) = true := by rw [keyi, decide_eq_true i1]
      have he : boundP ns ⟨k, op, pl, nn, nm, ar, ex⟩ i = ns ++ [nm] := by
        unfold boundP
        rw [if_neg (by simp only; omega), if_neg (by simp only; omega), if_pos (by simp only; omega)]
      have HE := Lib.hid he
      clear he k16 k12 i1 k11 e11a e11b e12a e12b e13a e13b e16a e16b keyi
      go_enter Tryd.func40, Tryd.ntmps40
      go_wp2_with (fail)
      refine (HONE.out nm).mono ?_
      rintro e w1 ⟨v1, rfl, h1, h2⟩
      have H := Lib.hid (And.intro h1 h2)
      clear h1 h2
      go_wp2_with (fail)
      go_ret
      exact WithD.later HA.out ⟨v1, rfl, by rw [HE.out]; exact H.out.1, H.out.2⟩
    · have ei : ((i : Int) == 1) = false := by rw [keyi, decide_eq_false i1]
      have he : boundP ns ⟨k, op, pl, nn, nm, ar, ex⟩ i = ns := by
        unfold boundP
        rw [if_neg (by simp only; omega), if_neg (by simp only; omega), if_neg (by simp only; omega)]
      have HE := Lib.hid he
      clear he k16 k12 i1 k11 e11a e11b e12a e12b e13a e13b e16a e16b keyi
      go_enter Tryd.func40, Tryd.ntmps40
      go_wp2_with (fail)
      go_ret
      exact ⟨v, rfl, by rw [HE.out]; exact HR.out, HA.out⟩
  have e12 := e12b k12
  by_cases k13 : k = 13
  · have e13 := e13a k13
    by_cases i1 : i = 1
    · have ei : ((i : Int) == 1) = true := by rw [keyi, decide_eq_true i1]
      have he : boundP ns ⟨k, op, pl, nn, nm, ar, ex⟩ i = ns ++ [nm] := by
        unfold boundP
        rw [if_neg (by simp only; omega), if_neg (by simp only; omega), if_pos (by simp only; omega)]
      have HE := Lib.hid he
      clear he k16 k12 k13 i1 k11 e11a e11b e12a e12b e13a e13b e16a e16b keyi
      go_enter Tryd.func40, Tryd.ntmps40
      go_wp2_with (fail)
      refine (HONE.out nm).mono ?_
      rintro e w1 ⟨v1, rfl, h1, h2⟩
      have H := Lib.hid (And.intro h1 h2)
      clear h1 h2
      go_wp2_with (fail)
      go_ret
      exact WithD.later HA.out ⟨v1, rfl, by rw [HE.out]; exact H.out.1, H.out.2⟩
    · have ei : ((i : Int) == 1) = false := by rw [keyi, decide_eq_false i1]
      have he : boundP ns ⟨k, op, pl, nn, nm, ar, ex⟩ i = ns ++ [nm, ar] := by
        have := HK.out k13
        unfold boundP
        rw [if_neg (by simp only; omega), if_pos (by simp only; omega)]
      have HE := Lib.hid he
      clear he k16 k12 k13 i1 k11 e11a e11b e12a e12b e13a e13b e16a e16b keyi
      go_enter Tryd.func40, Tryd.ntmps40
      go_wp2_with (fail)

      refine wp_region_held_drew (S := fun V => V.heap[w.heap.size]? = some (.cells #[.int .u8 k, .int .u8 op, .int .i64 pl, .int .i64 nn, .string nm, .string ar, .string ex, .slice q l c] 27 (0, 0)) ∧ Below w.heap.size w V) (by kernel_rfl) ⟨HB.out, HA.out.drew⟩ (fun hHeld => ?_)
      have HS0 : Hid ((w.alloc (.cells #[.int .u8 k, .int .u8 op, .int .i64 pl, .int .i64 nn, .string nm, .string ar, .string ex, .slice q l c] 27)).drew.heap[w.heap.size]? = some (.cells #[.int .u8 k, .int .u8 op, .int .i64 pl, .int .i64 nn, .string nm, .string ar, .string ex, .slice q l c] 27 (0, 0)) ∧ Below w.heap.size w (w.alloc (.cells #[.int .u8 k, .int .u8 op, .int .i64 pl, .int .i64 nn, .string nm, .string ar, .string ex, .slice q l c] 27)).drew) := Lib.hid ⟨HB.out, HA.out.drew⟩
      have HR0 : Hid (Rd (w.alloc (.cells #[.int .u8 k, .int .u8 op, .int .i64 pl, .int .i64 nn, .string nm, .string ar, .string ex, .slice q l c] 27)).drew v ns) := Lib.hid (HR.out.below (Below.refl _ _).drew)
      clear HB HA HR HONE
      generalize (w.alloc (.cells #[.int .u8 k, .int .u8 op, .int .i64 pl, .int .i64 nn, .string nm, .string ar, .string ex, .slice q l c] 27)).drew = v0 at *
      refine wpAnyH_take (i := 0) (v := v) rfl (by kernel_rfl) (by kernel_rfl) (by kernel_rfl) (fun _ _ _ h => h) (Or.inl ⟨by rfl, ?_⟩) (by assumption) ?_
      · intro w' hSw
        obtain ⟨⟨g0, g1, g2, g3, g4, g5, g6, g7⟩, d0, d1, d2, d3, d4, d5, d6, d7⟩ := cells8' hSw.1
        first | go_simp | rfl
      try simp only [Act.put, List.getElem_toArray, List.getElem_cons_succ, List.getElem_cons_zero, List.setIfInBounds_toArray, List.set_cons_zero, List.set_cons_succ]
      refine wpAnyH_take (i := 1) (v := .pointer (some ⟨w.heap.size, 0, none⟩)) rfl (by kernel_rfl) (by kernel_rfl) (by kernel_rfl) (fun _ _ _ h => h) (Or.inl ⟨by rfl, ?_⟩) (by assumption) ?_
      · intro w' hSw
        obtain ⟨⟨g0, g1, g2, g3, g4, g5, g6, g7⟩, d0, d1, d2, d3, d4, d5, d6, d7⟩ := cells8' hSw.1
        first | go_simp | rfl
      try simp only [Act.put, List.getElem_toArray, List.getElem_cons_succ, List.getElem_cons_zero, List.setIfInBounds_toArray, List.set_cons_zero, List.set_cons_succ]
      refine wpAnyH_take (i := 2) (v := .pointer (some ⟨w.heap.size, 4, none⟩)) rfl (by kernel_rfl) (by kernel_rfl) (by kernel_rfl) (fun _ _ _ h => h) (Or.inl ⟨by rfl, ?_⟩) (by assumption) ?_
      · intro w' hSw
        obtain ⟨⟨g0, g1, g2, g3, g4, g5, g6, g7⟩, d0, d1, d2, d3, d4, d5, d6, d7⟩ := cells8' hSw.1
        first | go_simp | rfl
      try simp only [Act.put, List.getElem_toArray, List.getElem_cons_succ, List.getElem_cons_zero, List.setIfInBounds_toArray, List.set_cons_zero, List.set_cons_succ]
      refine wpAnyH_take (i := 3) (v := .string nm) rfl (by kernel_rfl) (by kernel_rfl) (by kernel_rfl) (fun _ _ _ h => h) (Or.inl ⟨by rfl, ?_⟩) (by assumption) ?_
      · intro w' hSw
        obtain ⟨⟨g0, g1, g2, g3, g4, g5, g6, g7⟩, d0, d1, d2, d3, d4, d5, d6, d7⟩ := cells8' hSw.1
        first | go_simp | rfl
      try simp only [Act.put, List.getElem_toArray, List.getElem_cons_succ, List.getElem_cons_zero, List.setIfInBounds_toArray, List.set_cons_zero, List.set_cons_succ]
      refine wpAnyH_take (i := 5) (v := .pointer (some ⟨w.heap.size, 0, none⟩)) rfl (by kernel_rfl) (by kernel_rfl) (by kernel_rfl) (fun _ _ _ h => h) (Or.inl ⟨by rfl, ?_⟩) (by assumption) ?_
      · intro w' hSw
        obtain ⟨⟨g0, g1, g2, g3, g4, g5, g6, g7⟩, d0, d1, d2, d3, d4, d5, d6, d7⟩ := cells8' hSw.1
        first | go_simp | rfl
      try simp only [Act.put, List.getElem_toArray, List.getElem_cons_succ, List.getElem_cons_zero, List.setIfInBounds_toArray, List.set_cons_zero, List.set_cons_succ]
      refine wpAnyH_take (i := 6) (v := .pointer (some ⟨w.heap.size, 5, none⟩)) rfl (by kernel_rfl) (by kernel_rfl) (by kernel_rfl) (fun _ _ _ h => h) (Or.inl ⟨by rfl, ?_⟩) (by assumption) ?_
      · intro w' hSw
        obtain ⟨⟨g0, g1, g2, g3, g4, g5, g6, g7⟩, d0, d1, d2, d3, d4, d5, d6, d7⟩ := cells8' hSw.1
        first | go_simp | rfl
      try simp only [Act.put, List.getElem_toArray, List.getElem_cons_succ, List.getElem_cons_zero, List.setIfInBounds_toArray, List.set_cons_zero, List.set_cons_succ]
      refine wpAnyH_take (i := 7) (v := .string ar) rfl (by kernel_rfl) (by kernel_rfl) (by kernel_rfl) (fun _ _ _ h => h) (Or.inl ⟨by rfl, ?_⟩) (by assumption) ?_
      · intro w' hSw
        obtain ⟨⟨g0, g1, g2, g3, g4, g5, g6, g7⟩, d0, d1, d2, d3, d4, d5, d6, d7⟩ := cells8' hSw.1
        first | go_simp | rfl
      try simp only [Act.put, List.getElem_toArray, List.getElem_cons_succ, List.getElem_cons_zero, List.setIfInBounds_toArray, List.set_cons_zero, List.set_cons_succ]
      refine wpAnyH_ready (rs := [4]) (by kernel_rfl) (by simp) ?_
      refine AllReadyH.cons rfl (fun K hK => ?_) AllReadyH.nil
      have HK2 := Lib.hid hK
      clear hK
      go_simp
      refine (withD_walk v0 v ns nm HR0.out (by have := HN.out; omega)).mono ?_
      rintro e w1 ⟨v1, rfl, h1, h2⟩
      have hs1 := And.intro ((h2.block _ (lt_of_block HS0.out.1)).trans HS0.out.1) (HS0.out.2.trans (h2.mono HS0.out.2.size))
      refine HK2.out _ _ hs1 (fun hHeld => ?_)
      have HS1 := Lib.hid hs1; have H1 := Lib.hid h1
      clear HK2 hs1 h1 h2
      try simp only [Act.put, List.getElem_toArray, List.getElem_cons_succ, List.getElem_cons_zero, List.setIfInBounds_toArray, List.set_cons_zero, List.set_cons_succ]
      clear K
      refine wpAnyH_ready (rs := [8]) (by kernel_rfl) (by simp) ?_
      refine AllReadyH.cons rfl (fun K hK => ?_) AllReadyH.nil
      have HK2 := Lib.hid hK
      clear hK
      go_simp
      refine (withD_walk w1 v1 (ns ++ [nm]) ar H1.out (by have := HN.out; simp; omega)).mono ?_
      rintro e w2 ⟨v2, rfl, h1, h2⟩
      have hs2 := And.intro ((h2.block _ (lt_of_block HS1.out.1)).trans HS1.out.1) (HS1.out.2.trans (h2.mono HS1.out.2.size))
      refine HK2.out _ _ hs2 (fun hHeld => ?_)
      have HS2 := Lib.hid hs2; have H2 := Lib.hid h1
      clear HK2 hs2 h1 h2
      try simp only [Act.put, List.getElem_toArray, List.getElem_cons_succ, List.getElem_cons_zero, List.setIfInBounds_toArray, List.set_cons_zero, List.set_cons_succ]
      clear K
      refine wpAnyH_ready (rs := [9]) (by kernel_rfl) (by simp) ?_
      refine AllReadyH.cons rfl (fun K hK => ?_) AllReadyH.nil
      have HK2 := Lib.hid hK
      clear hK
      go_simp
      refine HK2.out _ _ HS2.out (fun hHeld => ?_)
      clear HK2
      try simp only [Act.put, List.getElem_toArray, List.getElem_cons_succ, List.getElem_cons_zero, List.setIfInBounds_toArray, List.set_cons_zero, List.set_cons_succ]
      clear K
      refine wpAnyH_done (by kernel_rfl) ?_ _
      clear hHeld
      go_wp2_with (fail)
      go_ret
      exact ⟨v2, rfl, by rw [HE.out]; have := H2.out; rw [List.append_assoc] at this; exact this, HS2.out.2⟩
  have e13 := e13b k13
  have he : boundP ns ⟨k, op, pl, nn, nm, ar, ex⟩ i = ns := by
    unfold boundP
    rw [if_neg (by simp only; omega), if_neg (by simp only; omega), if_neg (by simp only; omega)]
  have HE := Lib.hid he
  clear he k16 k12 k13 k11 e11a e11b e12a e12b e13a e13b e16a e16b keyi
  go_enter Tryd.func40, Tryd.ntmps40
  go_wp2_with (fail)
  go_ret
  exact ⟨v, rfl, by rw [HE.out]; exact HR.out, HA.out⟩
end Scope
end Go.Proofs.YtkcadkjpneoobaaDoor
