/- The document's exceptions of some terms. -/
import Derived.Test.YtkcadkjpneoobaaDoorScopeRg
namespace Go.Proofs.YtkcadkjpneoobaaDoor
open Go.RowKit
set_option linter.unusedVariables false
set_option linter.unusedSimpArgs false
namespace Scope
open Term (Tm Hd TmIs ret_bool ret_i64 tget wt wts wts_cons wts_nil okT okK mayT nodeB kidsN drop_tget flatT flatK Flat)
open Words (str_no str_yes sel StrsAt)

theorem visT_flat : ∀ (m : Nat) (t : Tm) (ns : List ByteArray), wt t ≤ m → looks exnQ (visT t ns) = (flatT t).map (·.h.exn)
  | 0, t, ns, h => by have := Term.wt_pos t; omega
  | m + 1, t, ns, h => by
    have hk : ∀ (n : Nat) (ts : List Tm) (h' : Hd) (i : Nat), wts ts ≤ n → n ≤ m → looks exnQ (visK ts h' i ns) = (flatK ts).map (·.h.exn) := by
      intro n ts
      induction ts generalizing n with
      | nil => intro h' i _ _; rw [visK_nil, Term.flatK_nil]; rfl
      | cons t ts ih =>
        intro h' i h1 h2
        rw [wts_cons] at h1
        rw [visK_cons, looks_app, visT_flat m t _ (by omega), ih (wts ts) h' (i + 1) (Nat.le_refl _) (by omega), Term.flatK_cons, List.map_append]
    have h1 := hk (wts t.ks) t.ks t.h 0 (Nat.le_refl _) (by have := Term.wt_ks t; omega)
    rw [visT_eq, Term.flatT_eq, List.map_cons, ← h1]
    rfl
theorem node_exn {h : Hd} {l : Nat} (hn : nodeB h l = true) : (h.k = 15 ∨ h.k = 16 → h.exn ≠ ⟨#[]⟩) ∧ (¬ (h.k = 15 ∨ h.k = 16) → h.exn = ⟨#[]⟩) := by
  unfold nodeB at hn
  rw [Bool.and_eq_true, Bool.and_eq_true, Bool.and_eq_true] at hn
  have h1 := hn.2.2
  unfold Term.fitsB at h1
  constructor
  · intro hk e
    rw [if_pos (by unfold Term.exnF; simp [hk]), e, exn_empty] at h1
    cases h1
  · intro hk
    rw [if_neg (by unfold Term.exnF; simpa using hk)] at h1
    have h2 := of_decide_eq_true h1
    apply ByteArray.ext
    exact Array.eq_empty_of_size_eq_zero h2
theorem flat_node {t : Tm} {k : Nat} (h : okT t = true) (hk : k < (flatT t).length) : nodeB (tget (flatT t) k).h (tget (flatT t) k).ks.length = true := by
  have h1 := (Term.ok_all (wt t)).1 t (Nat.le_refl _)
  rw [h] at h1
  have h2 := List.all_eq_true.1 h1.symm (tget (flatT t) k) (Term.tget_mem hk)
  exact h2
/-- The exceptions that are seen so far, ahead of node k. -/
structure FxI (w : World) (F : List Tm) (fin : List ByteArray) (k : Nat) (wr : World) (v : Value) (s : List ByteArray) : Prop where
  below : Below w.heap.size w wr
  row : Rd wr v s
  len : s.length + (F.drop k).length ≤ 40000
  eq : putL ((F.drop k).map (·.h.exn)) s = fin
theorem FxI.on {w wr W : World} {F : List Tm} {fin s : List ByteArray} {k : Nat} {v v' : Value} (h : FxI w F fin k wr v s) (hk : k < F.length) (hb : Below wr.heap.size wr W) (hr : Rd W v' (putS (tget F k).h.exn s)) : FxI w F fin (k + 1) W v' (putS (tget F k).h.exn s) := by
  have hd := drop_tget F k hk
  have h1 := h.len
  have h2 := h.eq
  rw [hd] at h1 h2
  rw [List.length_cons] at h1
  rw [List.map_cons, putL_cons] at h2
  refine ⟨h.below.trans (hb.mono h.below.size), hr, ?_, h2⟩
  have := putS_len (tget F k).h.exn s
  omega
set_option maxRecDepth 100000 in
set_option maxHeartbeats 25600000 in
theorem exnsD_walk (ts : List Tm) (p : Option Addr) (l d : Nat) (w : World) (hk : Term.Kids w p ts) (hl : ts.length = l) (hlm : l ≤ maxLen) (hw : wts ts ≤ 40000) (hsm : ∀ i, i < l → wt (tget ts i) ≤ 4000) :
    Calls Tryd.prog 17 #[.slice p l d] w (WithD (metF exnQ ts) w) := by
  unfold maxLen at hlm
  have hmy := fun i (hi : i < l) h q l' c W (hT : TmIs W h q l' c (tget ts i)) => Term.refMay_walk (tget ts i) h q l' c W hT (hsm i hi)
  have hal : Below w.heap.size w (w.alloc (.cells #[] 9)) := (Below.refl _ _).alloc (Nat.le_refl _) _
  have HK := Lib.hid hk; have HL := Lib.hid hl; have HW := Lib.hid hw; have HSM := Lib.hid hsm; have HMY := Lib.hid hmy; have HAL := Lib.hid hal
  clear hk hl hw hsm hmy hal
  go_enter Tryd.func17, Tryd.ntmps17
  go_wp2_with (fail)
  go_loopw [4, 11] (fun _ i wr => ∃ j : Nat, j ≤ l ∧ i = .int .i64 j ∧ Hid (Below (w.alloc (.cells #[] 9)).heap.size (w.alloc (.cells #[] 9)) wr) ∧ Hid (∀ i, i < j → mayT (tget ts i) = true)) (fun _ i _ => l - (intOf i).toNat)
  case atStart => exact ⟨0, Nat.zero_le _, rfl, Lib.hid (Below.refl _ _), Lib.hid fun i hi => by omega⟩
  case round =>
    obtain ⟨j, hj, rfl, HB, HJ⟩ := hrel
    have hbw := HAL.out.trans (HB.out.mono HAL.out.size)
    by_cases hlt : j < l
    · have hjk : j < ts.length := by rw [HL.out]; exact hlt
      obtain ⟨b, o, q, c, rfl, hkid, c0, c1, c2, c3, c4, c5, c6, c7⟩ := (HK.out.stay hbw).get j hjk
      have hmm := HMY.out j hlt _ _ _ _ wr hkid
      have HM := Lib.hid hmm; have HJK := Lib.hid hjk; have HBW := Lib.hid hbw
      clear hmm hkid hjk hbw
      go_wp2_with (fail)
      refine HM.out.mono ?_
      rintro e w1 ⟨rfl, hb1⟩
      have hb0 := HB.out.trans (hb1.mono HB.out.size)
      cases hmay : mayT (tget ts j)
      · have hr : metF exnQ ts = [] := by
          unfold metF
          rw [if_neg (by rw [all_no HJK.out hmay]; simp)]
        have HR := Lib.hid hr; have HB0 := Lib.hid (HBW.out.trans (hb1.mono HBW.out.size))
        clear hr hmay hb1 hb0 c0 c1 c2 c3 c4 c5 c6 c7
        go_wp2_with (fail)
        go_ret
        exact ⟨_, rfl, by rw [HR.out]; exact rd_empty _ _ _, HB0.out.alloc HB0.out.size _⟩
      · have hn : ∀ i, i < j + 1 → mayT (tget ts i) = true := fun i hi => by
          rcases Nat.lt_succ_iff_lt_or_eq.1 hi with h | h
          · exact HJ.out i h
          · subst h; exact hmay
        have HN := Lib.hid hn; have HB0 := Lib.hid hb0
        clear hn hmay hb1 hb0 c0 c1 c2 c3 c4 c5 c6 c7
        go_wp2_with (fail)
        go_roundw
        case rel => exact ⟨j + 1, by omega, by go_num, HB0, HN⟩
        case measure => simp [intOf]; omega
    · obtain rfl : j = l := by omega
      have hall : ts.all mayT = true := all_yes (fun i hi => HJ.out i (by rw [← HL.out]; exact hi))
      have hst : FsI w exnQ ts (metF exnQ ts) 0 wr (.slice (some ⟨w.heap.size, 0, none⟩) 0 0) [] := ⟨hbw, rd_empty _ _ _, by rw [List.drop_zero]; have := HW.out; simp; omega, by rw [List.drop_zero, metF_eq _ _ hall]⟩
      have HST := Lib.hid hst; have HALL := Lib.hid HJ.out
      clear hst hall hbw HB HJ HMY HAL
      generalize metF exnQ ts = FIN at *
      go_wp2_with (fail)
      go_loopw [3, 5, 6, 7, 24, 34] (fun v _ _ _ i _ wr => ∃ (j' : Nat) (vs : Value) (s : List ByteArray), vs = v ∧ j' ≤ j ∧ i = .int .i64 j' ∧ Hid (FsI w exnQ ts FIN j' wr vs s)) (fun _ _ _ _ i _ _ => j - (intOf i).toNat)
      case atStart => exact ⟨0, _, _, rfl, Nat.zero_le _, rfl, HST⟩
      case round =>
        obtain ⟨k, vs, s, rfl, hk, rfl, HI⟩ := hrel
        by_cases hlt : k < j
        · have hjk : k < ts.length := by rw [HL.out]; exact hlt
          obtain ⟨b, o, q, c, rfl, hkid, c0, c1, c2, c3, c4, c5, c6, c7⟩ := (HK.out.stay HI.out.below).get k hjk
          have hra := Term.refAll_walk (wt (tget ts k)) (tget ts k) _ q _ c wr wr (Nat.le_refl _) (by have := HSM.out k hlt; omega) hkid (Below.refl _ _)
          have hlen := HI.out.len
          rw [drop_tget ts k hjk, wts_cons] at hlen
          have HRA := Lib.hid hra; have HJK := Lib.hid hjk; have HLEN := Lib.hid hlen
          clear hra hlen hjk hkid
          go_wp2_with (fail)
          refine HRA.out.mono ?_
          rintro e w1 ⟨g, cg, xs, rfl, hown, hfl, hb1⟩
          have hks := Term.kids_of_own hown hfl hb1 (Term.flatT_len (tget ts k))
          have hok := may_ok (HALL.out k hlt)
          have hx0 : FxI w1 (flatT (tget ts k)) (putL (looks exnQ (visT (tget ts k) [])) s) 0 w1 vs s := ⟨Below.refl _ _, HI.out.row.below hb1, by rw [List.drop_zero, Term.flatT_len]; have := HLEN.out; omega, by rw [List.drop_zero, visT_flat _ _ _ (Nat.le_refl _)]⟩
          have hfn : ∀ i, i < wt (tget ts k) → nodeB (tget (flatT (tget ts k)) i).h (tget (flatT (tget ts k)) i).ks.length = true := fun i hi => flat_node hok (by rw [Term.flatT_len]; exact hi)
          have HX0 := Lib.hid hx0; have HB1 := Lib.hid hb1; have HKS := Lib.hid hks; have HFN := Lib.hid hfn; have HFL := Lib.hid (Term.flatT_len (tget ts k))
          have hwi : wt (tget ts k) ≤ 4000 := HSM.out k hlt
          clear hown hfl hb1 hks hok hx0 hfn c0 c1 c2 c3 c4 c5 c6 c7 HRA
          generalize hW : wt (tget ts k) = N at *
          generalize flatT (tget ts k) = F at *
          clear hW
          go_wp2_with (fail)
          go_loopw [3, 7, 34] (fun v _ i wr => ∃ (n : Nat) (v2 : Value) (s2 : List ByteArray), v2 = v ∧ n ≤ N ∧ i = .int .i64 n ∧ Hid (FxI w1 F (putL (looks exnQ (visT (tget ts k) [])) s) n wr v2 s2)) (fun _ _ i _ => N - (intOf i).toNat)
          case atStart => exact ⟨0, _, _, rfl, Nat.zero_le _, rfl, HX0⟩
          case round =>
            obtain ⟨n, v2, s2, rfl, hn, rfl, HXI⟩ := hrel
            by_cases hln : n < N
            · have hnf : n < F.length := by rw [HFL.out]; exact hln
              obtain ⟨b', o', q', c', e', hkid, c0, c1, c2, c3, c4, c5, c6, c7⟩ := (HKS.out.stay HXI.out.below).get n hnf
              injection e' with e'
              injection e' with e1 e2
              subst e1 e2
              simp only [Nat.zero_add] at c0 c1 c2 c3 c4 c5 c6 c7
              obtain ⟨x1, x2⟩ := node_exn (HFN.out n hln)
              have hon := fun W v' hb hr => HXI.out.on (W := W) (v' := v') hnf hb hr
              have hlen : s2.length ≤ 90000 := by have := HXI.out.len; omega
              have hpd := fun hx => putD_walk wr v2 s2 (tget F n).h.exn HXI.out.row hx hlen
              have hrow := HXI.out.row
              have HON := Lib.hid hon; have HPD := Lib.hid hpd; have HROW := Lib.hid hrow
              clear hon hpd hrow hkid hlen hnf c1 c2 c3 c4 c5 c7
              generalize tget F n = u at *
              generalize u.h.k = uk at *
              generalize u.h.exn = uex at *
              have hx1 : uk = 15 ∨ uk = 16 → uex ≠ ⟨#[]⟩ := x1
              have hx2 : ¬ (uk = 15 ∨ uk = 16) → uex = ⟨#[]⟩ := x2
              clear x1 x2
              by_cases h15 : uk = 15
              · have e15 : (uk == 15) = true := by simpa using h15
                have HPX := Lib.hid (HPD.out (hx1 (.inl h15)))
                clear hx1 hx2 h15 HPD
                go_wp2_with (fail)
                refine HPX.out.mono ?_
                rintro e w3 ⟨v3, rfl, h1, h2⟩
                have HNX := Lib.hid (HON.out _ _ h2 h1)
                clear h1 h2
                go_wp2_with (fail)
                go_roundw
                case rel => exact ⟨n + 1, _, _, rfl, by omega, by go_num, HNX⟩
                case measure => simp [intOf]; omega
              · have e15 : (uk == 15) = false := by simpa using h15
                by_cases h16 : uk = 16
                · have e16 : (uk == 16) = true := by simpa using h16
                  have HPX := Lib.hid (HPD.out (hx1 (.inr h16)))
                  clear hx1 hx2 h15 h16 HPD
                  go_wp2_with (fail)
                  refine HPX.out.mono ?_
                  rintro e w3 ⟨v3, rfl, h1, h2⟩
                  have HNX := Lib.hid (HON.out _ _ h2 h1)
                  clear h1 h2
                  go_wp2_with (fail)
                  go_roundw
                  case rel => exact ⟨n + 1, _, _, rfl, by omega, by go_num, HNX⟩
                  case measure => simp [intOf]; omega
                · have e16 : (uk == 16) = false := by simpa using h16
                  have hxe : uex = ⟨#[]⟩ := hx2 (by omega)
                  have hps : putS uex s2 = s2 := if_neg (fun h => h.1 hxe)
                  have hnx := HON.out wr v2 (Below.refl _ _) (by show Rd wr v2 (putS uex s2); rw [hps]; exact HROW.out)
                  have HNX := Lib.hid hnx
                  clear hx1 hx2 h15 h16 HPD hxe hps hnx
                  go_wp2_with (fail)
                  go_roundw
                  case rel => exact ⟨n + 1, _, _, rfl, by omega, by go_num, HNX⟩
                  case measure => simp [intOf]; omega
            · obtain rfl : n = N := by omega
              have hfe := HXI.out.eq
              rw [List.drop_eq_nil_of_le (by rw [HFL.out]; exact Nat.le_refl _)] at hfe
              have hfe' : s2 = putL (looks exnQ (visT (tget ts k) [])) s := hfe
              have hrow := HXI.out.row
              rw [hfe'] at hrow
              have hnx := HI.out.on HJK.out (HB1.out.trans (HXI.out.below.mono HB1.out.size)) hrow
              have HNX := Lib.hid hnx
              clear hfe hfe' hrow hnx
              go_wp2_with (fail)
              go_roundw
              case rel => exact ⟨k + 1, _, _, rfl, by omega, by go_num, HNX⟩
              case measure => simp [intOf]; omega
        · obtain rfl : k = j := by omega
          have hfe := HI.out.eq
          rw [List.drop_eq_nil_of_le (by rw [HL.out]; exact Nat.le_refl _)] at hfe
          have hfe' : s = FIN := hfe
          have HFE := Lib.hid hfe'
          clear hfe hfe'
          go_wp2_with (fail)
          go_ret
          exact ⟨_, rfl, by rw [← HFE.out]; exact HI.out.row, HI.out.below⟩
end Scope
end Go.Proofs.YtkcadkjpneoobaaDoor
