/- The document's free names and exceptions of some terms. -/
import Derived.Test.YtkcadkjpneoobaaDoorScopeRf
import Derived.Test.YtkcadkjpneoobaaDoorScopeClM
import Derived.Test.YtkcadkjpneoobaaDoorGTermD
import Derived.Test.YtkcadkjpneoobaaDoorGTermE
import Derived.Test.YtkcadkjpneoobaaDoorScopeH
namespace Go.Proofs.YtkcadkjpneoobaaDoor
open Go.RowKit
set_option linter.unusedVariables false
set_option linter.unusedSimpArgs false
namespace Scope
open Term (Tm Hd TmIs ret_bool ret_i64 tget wt wts wts_cons wts_nil okT okK mayT nodeB kidsN drop_tget flatT flatK Flat)
open Words (str_no str_yes sel StrsAt)

theorem vis_cons (t : Tm) (ts : List Tm) : vis (t :: ts) = visT t [] ++ vis ts := by unfold vis; rw [List.flatMap_cons]
theorem may_ok {t : Tm} (h : mayT t = true) : okT t = true := by unfold mayT at h; rw [Bool.and_eq_true] at h; exact h.2
/-- The names that are seen so far, ahead of term j. -/
structure FsI (w : World) (look : List ByteArray → Hd → ByteArray) (ts : List Tm) (fin : List ByteArray) (j : Nat) (wr : World) (v : Value) (s : List ByteArray) : Prop where
  below : Below w.heap.size w wr
  row : Rd wr v s
  len : s.length + wts (ts.drop j) ≤ 40000
  eq : putL (looks look (vis (ts.drop j))) s = fin
theorem FsI.on {w wr W : World} {look : List ByteArray → Hd → ByteArray} {ts : List Tm} {fin s : List ByteArray} {j : Nat} {v v' : Value} (h : FsI w look ts fin j wr v s) (hj : j < ts.length) (hb : Below wr.heap.size wr W) (hr : Rd W v' (putL (looks look (visT (tget ts j) [])) s)) :
    FsI w look ts fin (j + 1) W v' (putL (looks look (visT (tget ts j) [])) s) := by
  have hd := drop_tget ts j hj
  have h1 := h.len
  have h2 := h.eq
  rw [hd] at h1 h2
  rw [wts_cons] at h1
  rw [vis_cons, looks_app, putL_app] at h2
  refine ⟨h.below.trans (hb.mono h.below.size), hr, ?_, h2⟩
  have h3 := putL_len (looks look (visT (tget ts j) [])) s
  have h4 : (looks look (visT (tget ts j) [])).length = wt (tget ts j) := by unfold looks; rw [List.length_map, visT_len _ _ _ (Nat.le_refl _)]
  omega
set_option maxRecDepth 100000 in
set_option maxHeartbeats 12800000 in
theorem freesD_walk (ts : List Tm) (p : Option Addr) (l d : Nat) (w : World) (hk : Term.Kids w p ts) (hl : ts.length = l) (hlm : l ≤ maxLen) (hw : wts ts ≤ 40000) (hsm : ∀ i, i < l → wt (tget ts i) ≤ 4000) :
    Calls Tryd.prog 15 #[.slice p l d] w (WithD (metF freeP ts) w) := by
  unfold maxLen at hlm
  have hmy := fun i (hi : i < l) h q l' c W (hT : TmIs W h q l' c (tget ts i)) => Term.refMay_walk (tget ts i) h q l' c W hT (hsm i hi)
  have hal : Below w.heap.size w (w.alloc (.cells #[] 9)) := (Below.refl _ _).alloc (Nat.le_refl _) _
  have HK := Lib.hid hk; have HL := Lib.hid hl; have HW := Lib.hid hw; have HSM := Lib.hid hsm; have HMY := Lib.hid hmy; have HAL := Lib.hid hal
  clear hk hl hw hsm hmy hal
  go_enter Tryd.func15, Tryd.ntmps15
  go_wp2_with (fail)
  go_loopw [4, 9] (fun _ i wr => ∃ j : Nat, j ≤ l ∧ i = .int .i64 j ∧ Hid (Below (w.alloc (.cells #[] 9)).heap.size (w.alloc (.cells #[] 9)) wr) ∧ Hid (∀ i, i < j → mayT (tget ts i) = true)) (fun _ i _ => l - (intOf i).toNat)
  case atStart => exact ⟨0, Nat.zero_le _, rfl, Lib.hid (Below.refl _ _), Lib.hid fun i hi => by omega⟩
  case round =>
    obtain ⟨j, hj, rfl, HB, HJ⟩ := hrel
    have hbw := HAL.out.trans (HB.out.mono HAL.out.size)
    by_cases hlt : j < l
    · have hjk : j < ts.length := by rw [HL.out]; exact hlt
      obtain ⟨b, o, q, c, rfl, hkid, c0, c1, c2, c3, c4, c5, c6, c7⟩ := (HK.out.stay hbw).get j hjk
      have hmm := HMY.out j hlt _ _ _ _ wr hkid
      have HM := Lib.hid hmm; have HJK := Lib.hid hjk; have HBW := Lib.hid hbw
      clear hmm hkid hjk hbw
      go_wp2_with (fail)
      refine HM.out.mono ?_
      rintro e w1 ⟨rfl, hb1⟩
      have hb0 := HB.out.trans (hb1.mono HB.out.size)
      cases hmay : mayT (tget ts j)
      · have hr : metF freeP ts = [] := by
          unfold metF
          rw [if_neg (by rw [all_no HJK.out hmay]; simp)]
        have HR := Lib.hid hr; have HB0 := Lib.hid (HBW.out.trans (hb1.mono HBW.out.size))
        clear hr hmay hb1 hb0 c0 c1 c2 c3 c4 c5 c6 c7
        go_wp2_with (fail)
        go_ret
        exact ⟨_, rfl, by rw [HR.out]; exact rd_empty _ _ _, HB0.out.alloc HB0.out.size _⟩
      · have hn : ∀ i, i < j + 1 → mayT (tget ts i) = true := fun i hi => by
          rcases Nat.lt_succ_iff_lt_or_eq.1 hi with h | h
          · exact HJ.out i h
          · subst h; exact hmay
        have HN := Lib.hid hn; have HB0 := Lib.hid hb0
        clear hn hmay hb1 hb0 c0 c1 c2 c3 c4 c5 c6 c7
        go_wp2_with (fail)
        go_roundw
        case rel => exact ⟨j + 1, by omega, by go_num, HB0, HN⟩
        case measure => simp [intOf]; omega
    · obtain rfl : j = l := by omega
      have hall : ts.all mayT = true := all_yes (fun i hi => HJ.out i (by rw [← HL.out]; exact hi))
      have hst : FsI w freeP ts (metF freeP ts) 0 wr (.slice (some ⟨w.heap.size, 0, none⟩) 0 0) [] := ⟨hbw, rd_empty _ _ _, by rw [List.drop_zero]; have := HW.out; simp; omega, by rw [List.drop_zero, metF_eq _ _ hall]⟩
      have HST := Lib.hid hst; have HALL := Lib.hid HJ.out
      clear hst hall hbw HB HJ HMY HAL
      generalize metF freeP ts = FIN at *
      go_wp2_with (fail)
      go_loopw [3, 5, 22] (fun v _ i wr => ∃ (j' : Nat) (vs : Value) (s : List ByteArray), vs = v ∧ j' ≤ j ∧ i = .int .i64 j' ∧ Hid (FsI w freeP ts FIN j' wr vs s)) (fun _ _ i _ => j - (intOf i).toNat)
      case atStart => exact ⟨0, _, _, rfl, Nat.zero_le _, rfl, HST⟩
      case round =>
        obtain ⟨k, vs, s, rfl, hk, rfl, HI⟩ := hrel
        by_cases hlt : k < j
        · have hjk : k < ts.length := by rw [HL.out]; exact hlt
          obtain ⟨b, o, q, c, rfl, hkid, c0, c1, c2, c3, c4, c5, c6, c7⟩ := (HK.out.stay HI.out.below).get k hjk
          have ha : Below wr.heap.size wr (wr.alloc (.cells #[] 9)) := (Below.refl _ _).alloc (Nat.le_refl _) _
          have hlen := HI.out.len
          rw [drop_tget ts k hjk, wts_cons] at hlen
          have hfr := freeD_walk (wt (tget ts k)) (tget ts k) _ q _ c (wr.alloc (.cells #[] 9)) vs (.slice (some ⟨wr.heap.size, 0, none⟩) 0 0) s [] (Nat.le_refl _) (hkid.below ha) (may_ok (HALL.out k hlt)) (HI.out.row.below ha) (rd_empty _ _ _) (by omega) (by have := HSM.out k hlt; simp; omega)
          have HF := Lib.hid hfr; have HA := Lib.hid ha; have HJK := Lib.hid hjk
          clear hfr ha hlen hjk hkid
          go_wp2_with (fail)
          refine HF.out.mono ?_
          rintro e w1 ⟨v1, rfl, h1, h2⟩
          have hnx := HI.out.on HJK.out (HA.out.trans (h2.mono HA.out.size)) h1
          have HNX := Lib.hid hnx
          clear hnx h1 h2 c0 c1 c2 c3 c4 c5 c6 c7
          go_wp2_with (fail)
          go_roundw
          case rel => exact ⟨k + 1, _, _, rfl, by omega, by go_num, HNX⟩
          case measure => simp [intOf]; omega
        · obtain rfl : k = j := by omega
          have hfe := HI.out.eq
          rw [List.drop_eq_nil_of_le (by rw [HL.out]; exact Nat.le_refl _)] at hfe
          have hfe' : s = FIN := hfe
          have HFE := Lib.hid hfe'
          clear hfe hfe'
          go_wp2_with (fail)
          go_ret
          exact ⟨_, rfl, by rw [← HFE.out]; exact HI.out.row, HI.out.below⟩
end Scope
end Go.Proofs.YtkcadkjpneoobaaDoor
