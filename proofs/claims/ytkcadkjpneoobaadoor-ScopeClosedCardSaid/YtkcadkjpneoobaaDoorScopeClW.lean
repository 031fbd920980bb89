/- The walk of layer 7's statement on what is closed. -/
import Derived.Test.YtkcadkjpneoobaaDoorScopeGr
import Derived.Test.YtkcadkjpneoobaaDoorScopeClM
import Derived.Test.YtkcadkjpneoobaaDoorScopeN
import Derived.Test.YtkcadkjpneoobaaDoorScopeH
import Derived.Test.YtkcadkjpneoobaaDoorScopeK
import Derived.Test.YtkcadkjpneoobaaDoorScopeL
import Derived.Test.YtkcadkjpneoobaaDoorGTermD
namespace Go.Proofs.YtkcadkjpneoobaaDoor
open Go.RowKit
set_option linter.unusedVariables false
set_option linter.unusedSimpArgs false
namespace Scope
open Term (Tm Hd TmIs ret_bool ret_i64 tget wt wts wts_cons wts_nil drop_tget tcells mayT okT greatB Flat)
open Words (str_no str_yes sel StrsAt)

theorem exnQ_walk (ts : List Tm) (p : Option Addr) (l d : Nat) (w : World) (hk : Term.Kids w p ts) (hl : ts.length = l) (hlm : l ≤ maxLen) (hw : wts ts ≤ 40000) (hkw : Words.KwLaid w) :
    Calls Tryd.prog 16 #[.slice p l d] w (MetEnd (metF exnQ ts) w) := scopeExn_walk ts p l d w hk hl hlm hw hkw
theorem names_sel (xs : List Ex) : names xs = names (xs.take xs.length) := by rw [List.take_length]
set_option maxRecDepth 100000 in
set_option maxHeartbeats 51200000 in
theorem scopeClosed_walk (p : Option Addr) (n d : Nat) (xs : List Ex) (h : Hd) (q : Option Addr) (l c : Nat) (t : Tm) (w : World) (hE : IsExs w p n d xs) (hT : TmIs w h q l c t) (hkw : Words.KwLaid w) :
    Calls Tryd.prog 5 #[.agg #[.slice p n d, .int .u8 h.k, .int .u8 h.op, .int .i64 h.pl, .int .i64 h.n, .string h.name, .string h.arg, .string h.exn, .slice q l c]] w fun e w' => e = .returned (.bool true) ∧ Below w.heap.size w w' := by
  have hgr := fun W (hb : Below w.heap.size w W) => greatP_walk p n d xs h q l c t W ⟨hE.1, hE.2.1, hE.2.2.below hb⟩ (hT.below hb)
  have hmy := fun W (hb : Below w.heap.size w W) (hw : wt t ≤ 4000) => Term.refMay_walk t h q l c W (hT.below hb) hw
  have haw := fun W (hb : Below w.heap.size w W) => awake_walk W (hkw.below hb)
  have hcl := fun W (hb : Below w.heap.size w W) => closed_walk p n d xs h q l c t W hE.1 hE.2.1 (hE.2.2.below hb) (hT.below hb) (hkw.below hb)
  obtain ⟨hn, hnm, hx⟩ := hE
  subst hn
  unfold maxLen at hnm
  obtain ⟨k, op, pl, nn, nm, ar, ex⟩ := h
  have hfr := fun (hw : wt t ≤ 400) W b (hb : Below w.heap.size w W) (hx : W.heap[b]? = some (.cells #[.int .u8 k, .int .u8 op, .int .i64 pl, .int .i64 nn, .string nm, .string ar, .string ex, .slice q l c] 27 (0, 0))) => scopeFree_walk [t] (some ⟨b, 0, none⟩) 1 1 W (kids_blk (xs := tcells ⟨k, op, pl, nn, nm, ar, ex⟩ q l c) hx (Flat.one (hT.below hb))) rfl (by unfold maxLen; omega) (by rw [wts_cons, wts_nil]; omega) (hkw.below hb)
  have hex := fun (hw : wt t ≤ 400) W b (hb : Below w.heap.size w W) (hx : W.heap[b]? = some (.cells #[.int .u8 k, .int .u8 op, .int .i64 pl, .int .i64 nn, .string nm, .string ar, .string ex, .slice q l c] 27 (0, 0))) => exnQ_walk [t] (some ⟨b, 0, none⟩) 1 1 W (kids_blk (xs := tcells ⟨k, op, pl, nn, nm, ar, ex⟩ q l c) hx (Flat.one (hT.below hb))) rfl (by unfold maxLen; omega) (by rw [wts_cons, wts_nil]; omega) (hkw.below hb)
  have hbox : ∀ O : Obj, Below w.heap.size w (w.alloc O) := fun O => (Below.refl _ _).alloc (Nat.le_refl _) O
  have hX : ∀ W, Below (w.alloc (.cells #[.slice p xs.length d, .int .u8 k, .int .u8 op, .int .i64 pl, .int .i64 nn, .string nm, .string ar, .string ex, .slice q l c] 29)).heap.size (w.alloc (.cells #[.slice p xs.length d, .int .u8 k, .int .u8 op, .int .i64 pl, .int .i64 nn, .string nm, .string ar, .string ex, .slice q l c] 29)) W → Below w.heap.size w W ∧ W.heap[w.heap.size]? = some (.cells #[.slice p xs.length d, .int .u8 k, .int .u8 op, .int .i64 pl, .int .i64 nn, .string nm, .string ar, .string ex, .slice q l c] 29 (0, 0)) :=
    fun W hb => ⟨(hbox _).trans (hb.mono (hbox _).size), (hb.block _ (by simp)).trans (heap_alloc_new w _)⟩
  have HGR := Lib.hid hgr; have HMY := Lib.hid hmy; have HAW := Lib.hid haw; have HCL := Lib.hid hcl; have HFR := Lib.hid hfr; have HEX := Lib.hid hex; have HBOX := Lib.hid hbox; have HX := Lib.hid hX; have HE := Lib.hid hx
  clear hgr hmy haw hcl hfr hex hbox hX hx hT hkw
  go_enter Tryd.func5, Tryd.ntmps5
  go_wp2_with (fail)
  refine (HGR.out _ (HBOX.out _)).mono ?_
  rintro e w1 ⟨rfl, hb1⟩
  obtain ⟨hB1, hbx⟩ := HX.out w1 hb1
  have HB1 := Lib.hid hB1; have HC1 := Lib.hid hb1
  obtain ⟨⟨r0, r1, r2, r3, r4, r5, r6, r7, r8⟩, s0, s1, s2, s3, s4, s5, s6, s7, s8⟩ := cells9' hbx
  have rl := lt_of_block hbx
  clear hb1 hB1 hbx
  cases hg : greatP xs t
  rotate_left
  · clear hg
    go_wp2_with (fail)
    refine (HAW.out _ HB1.out).mono ?_
    rintro e w2 ⟨rfl, hb2⟩
    have HB2 := Lib.hid (HB1.out.trans (hb2.mono HB1.out.size))
    clear hb2
    go_wp2_with (fail)
    go_ret
    exact ⟨rfl, HB2.out⟩
  have HWT := Lib.hid (Term.small_of (gr_small hg).2).1
  have HXL := Lib.hid (gr_small hg).1
  clear hg
  go_wp2_with (fail)
  refine (HMY.out _ HB1.out (by have := HWT.out; omega)).mono ?_
  rintro e w2 ⟨rfl, hb2⟩
  have hc2 := HC1.out.trans (hb2.mono HC1.out.size)
  obtain ⟨hB2, hbx⟩ := HX.out w2 hc2
  have HB2 := Lib.hid hB2; have HC2 := Lib.hid hc2; have HBX2 := Lib.hid hbx
  clear r0 r1 r2 r3 r4 r5 r6 r7 r8 s0 s1 s2 s3 s4 s5 s6 s7 s8 rl
  obtain ⟨⟨r0, r1, r2, r3, r4, r5, r6, r7, r8⟩, s0, s1, s2, s3, s4, s5, s6, s7, s8⟩ := cells9' hbx
  have rl := lt_of_block hbx
  clear hb2 hc2 hB2 hbx HC1 HB1
  cases hm : mayT t
  · clear hm
    go_wp2_with (fail)
    refine (HAW.out _ HB2.out).mono ?_
    rintro e w3 ⟨rfl, hb3⟩
    have HB3 := Lib.hid (HB2.out.trans (hb3.mono HB2.out.size))
    clear hb3
    go_wp2_with (fail)
    go_ret
    exact ⟨rfl, HB3.out⟩
  have HIFF := Lib.hid (closed_iff xs t hm)
  clear hm
  have hfl : (metF freeP [t]).length ≤ 400 ∧ (metF exnQ [t]).length ≤ 400 := by
    have h1 := met_len freeP [t]; have h3 := met_len exnQ [t]
    rw [wts_cons, wts_nil] at h1 h3
    have := HWT.out
    omega
  have HFL := Lib.hid hfl
  clear hfl
  go_upto_region 3 with (fail)
  go_cut [3] (fun s wx => s = .bool (decide (xs.length ≤ 64) && decide ((metF freeP [t]).length = 0)) ∧ Below w2.heap.size w2 wx)
  case first =>
    by_cases h64 : xs.length ≤ 64
    · have hi : (xs.length : Int) ≤ 64 := by omega
      have hal : Below w2.heap.size w2 (w2.alloc (.cells #[.int .u8 k, .int .u8 op, .int .i64 pl, .int .i64 nn, .string nm, .string ar, .string ex, .slice q l c] 27)) := (Below.refl _ _).alloc (Nat.le_refl _) _
      have hfr := HFR.out HWT.out _ _ (HB2.out.trans (hal.mono HB2.out.size)) (heap_alloc_new w2 (.cells #[.int .u8 k, .int .u8 op, .int .i64 pl, .int .i64 nn, .string nm, .string ar, .string ex, .slice q l c] 27))
      have HF := Lib.hid hfr; have HAL := Lib.hid hal; have H64 := Lib.hid (decide_eq_true h64)
      clear hfr hal h64
      go_wp2_with (fail)
      refine HF.out.mono ?_
      rintro e w3 ⟨v3, rfl, hn3, hb3⟩
      obtain ⟨p3, d3, rfl, hm3⟩ := hn3.slice
      have HB3 := Lib.hid (HAL.out.trans (hb3.mono HAL.out.size))
      have hl3 := HFL.out.1
      clear hn3 hb3 hm3
      have HD : Hid (((decide ((metF freeP [t]).length = 0)) : Bool) = decide (((metF freeP [t]).length : Int) = 0)) := Lib.hid (by
        apply decide_eq_decide.2
        omega)
      generalize (metF freeP [t]).length = m at *
      go_wp2_with (fail)
      go_meet
      refine ⟨?_, HB3.out⟩
      rw [H64.out, Bool.true_and, HD.out]
      first | rfl | simp
    · have hi : ¬ (xs.length : Int) ≤ 64 := by omega
      have H64 := Lib.hid (decide_eq_false h64)
      clear h64
      go_wp2_with (fail)
      go_meet
      refine ⟨?_, Below.refl _ _⟩
      rw [H64.out]
      first | rfl | simp
  case rest =>
    obtain ⟨rfl, hq⟩ := hcut
    clear r0 r1 r2 r3 r4 r5 r6 r7 r8 s0 s1 s2 s3 s4 s5 s6 s7 s8 rl
    have HQ := Lib.hid hq
    clear hq
    generalize hb0 : (decide (xs.length ≤ 64) && decide ((metF freeP [t]).length = 0)) = b0 at *
    have hiff := HIFF.out
    unfold okC at hiff
    rw [hb0] at hiff
    have HI2 := Lib.hid hiff
    clear hiff HIFF hb0
    have z6 : (wc.alloc (.cells #[] 9)).heap.size = wc.heap.size + 1 := by simp
    have a6 : Below wc.heap.size wc (wc.alloc (.cells #[] 9)) := (Below.refl _ _).alloc (Nat.le_refl _) _
    have hbk := fun W (hb : Below (wc.alloc (.cells #[] 9)).heap.size (wc.alloc (.cells #[] 9)) W) => HX.out W (HC2.out.trans ((HQ.out.trans ((a6.trans (hb.mono a6.size)).mono HQ.out.size)).mono HC2.out.size))
    have HBK := Lib.hid hbk
    have HLI0 : Hid (LeftI (wc.alloc (.cells #[] 9)) wc.heap.size (wc.alloc (.cells #[] 9)) (.slice (some ⟨wc.heap.size, 0, none⟩) 0 0) (names (xs.take 0))) := Lib.hid ⟨Below.refl _ _, by rw [z6]; omega, .inl ⟨rfl, by rw [List.take_zero]; rfl, heap_alloc_new wc _⟩⟩
    have HN0 : Hid ((b0 && (dupF [] (xs.take 0)).isNone) = b0) := Lib.hid (by rw [List.take_zero]; simp [dupF])
    clear z6 a6 hbk HQ HC2 HBX2 HB2 HX HBOX HGR HMY HFR
    obtain ⟨hB4, hx4⟩ := HBK.out _ (Below.refl _ _)
    obtain ⟨⟨r0, r1, r2, r3, r4, r5, r6, r7, r8⟩, s0, s1, s2, s3, s4, s5, s6, s7, s8⟩ := cells9' hx4
    have rl := lt_of_block hx4
    clear hB4 hx4
    go_wp2_with (fail)
    clear r0 r1 r2 r3 r4 r5 r6 r7 r8 s0 s1 s2 s3 s4 s5 s6 s7 s8 rl
    go_loopw [3, 4, 5] (fun s v i wr => ∃ (j : Nat) (vt : Value), vt = v ∧ j ≤ xs.length ∧ i = .int .i64 j ∧ s = .bool (b0 && (dupF [] (xs.take j)).isNone) ∧ Hid (LeftI (wc.alloc (.cells #[] 9)) wc.heap.size wr vt (names (xs.take j)))) (fun _ _ i _ => xs.length - (intOf i).toNat)
    case atStart => exact ⟨0, _, rfl, Nat.zero_le _, rfl, by rw [HN0.out], HLI0⟩
    case round =>
      obtain ⟨j, vt, rfl, hj, rfl, rfl, HLI⟩ := hrel
      obtain ⟨hB4, hx4⟩ := HBK.out _ HLI.out.below
      obtain ⟨⟨r0, r1, r2, r3, r4, r5, r6, r7, r8⟩, s0, s1, s2, s3, s4, s5, s6, s7, s8⟩ := cells9' hx4
      have rl := lt_of_block hx4
      have HB4 := Lib.hid hB4
      clear hB4 hx4
      by_cases hlt : j < xs.length
      · have hin := ref_in HLI.out.nm (eget xs j).s
        obtain ⟨b, o, rfl, K, c0, c1, c2⟩ := (HE.out.below HB4.out).get j hlt
        have hdt := dup_take xs j hlt
        have htk := take_eget xs j hlt
        have hln : (names (xs.take j)).length ≤ 90000 := by
          rw [names_len]
          have := List.length_take_le j xs
          have := HXL.out
          omega
        have hal := HLI.out.later ((Below.refl wr.heap.size wr).alloc (Nat.le_refl _) (.cells #[.string (eget xs j).s] 9))
        have hnew : (b0 && (dupF [] (xs.take (j + 1))).isNone) = ((b0 && (dupF [] (xs.take j)).isNone) && !hasB (names (xs.take j)) (eget xs j).s) := by rw [hdt, Bool.and_assoc]
        generalize (eget xs j).s = y at *
        have HIN := Lib.hid hin; have HTK := Lib.hid htk; have HLN := Lib.hid hln; have HAL := Lib.hid hal
        clear hin htk hln hal hdt
        have hbl := World.block_lt_of_cell? wr _ c1
        simp only at hbl
        generalize hbj : (b0 && (dupF [] (xs.take j)).isNone) = bj at *
        cases bj
        · rw [Bool.false_and] at hnew
          have HNEW := Lib.hid hnew
          clear hnew hbj
          go_wp2_with (at_builtin; go_loud (refine left_append (x := y) rfl (.tmp 51) (.tmp 58) rfl _ _ rfl HAL.out wr.heap.size rfl (by rw [World.cell?_alloc_mark]; rfl) HLN.out ?_); intro v9 w9 h9; rw [← HTK.out] at h9; have H9 := Lib.hid h9; clear h9)
          go_roundw
          case rel => exact ⟨j + 1, _, rfl, by omega, by go_num, by rw [HNEW.out], H9⟩
          case measure => simp [intOf]; omega
        · rw [Bool.true_and] at hnew
          cases hh : hasB (names (xs.take j)) y
          all_goals
            rw [hh] at hnew HIN
            have HNEW := Lib.hid hnew
            clear hnew hbj hh
            go_wp2_with (fail)
            refine HIN.out.mono ?_
            rintro e wz ⟨rfl, rfl⟩
            go_wp2_with (at_builtin; go_loud (refine left_append (x := y) rfl (.tmp 51) (.tmp 58) rfl _ _ rfl HAL.out wr.heap.size rfl (by rw [World.cell?_alloc_mark]; rfl) HLN.out ?_); intro v9 w9 h9; rw [← HTK.out] at h9; have H9 := Lib.hid h9; clear h9)
            go_roundw
            case rel => exact ⟨j + 1, _, rfl, by omega, by go_num, by rw [HNEW.out]; rfl, H9⟩
            case measure => simp [intOf]; omega
      · obtain rfl : j = xs.length := by omega
        have hli := HLI.out
        rw [List.take_length] at hli
        have hi2 := HI2.out
        rw [List.take_length]
        have hal : Below wr.heap.size wr (wr.alloc (.cells #[.int .u8 k, .int .u8 op, .int .i64 pl, .int .i64 nn, .string nm, .string ar, .string ex, .slice q l c] 27)) := (Below.refl _ _).alloc (Nat.le_refl _) _
        have hexn := HEX.out HWT.out _ _ (HB4.out.trans (hal.mono HB4.out.size)) (heap_alloc_new wr (.cells #[.int .u8 k, .int .u8 op, .int .i64 pl, .int .i64 nn, .string nm, .string ar, .string ex, .slice q l c] 27))
        have HEXN := Lib.hid hexn; have HL2 := Lib.hid hli; have HAL := Lib.hid hal
        clear hexn hli hal HEX HLI HI2
        generalize hbd : (b0 && (dupF [] xs).isNone) = bd at *
        have HI2 := Lib.hid hi2
        clear hi2 hbd
        go_wp2_with (fail)
        refine HEXN.out.mono ?_
        rintro e w8 ⟨v8, rfl, hn8, hb8⟩
        have HL8 := Lib.hid (HL2.out.later (HAL.out.trans (hb8.mono HAL.out.size)))
        obtain ⟨pe, de, rfl, hme⟩ := hn8.slice
        have hse := hn8.strs.2
        unfold maxLen at hme
        have HSE := Lib.hid hse
        clear hn8 hb8 hse r0 r1 r2 r3 r4 r5 r6 r7 r8 s0 s1 s2 s3 s4 s5 s6 s7 s8 rl HEXN HAL HL2
        have hfl := HFL.out.2
        generalize metF exnQ [t] = es at *
        have HN1 : Hid ((bd && (es.take 0).all (hasB (names xs))) = bd) := Lib.hid (by rw [List.take_zero]; simp)
        go_wp2_with (fail)
        go_loopw [3, 7] (fun s i wr => ∃ (j : Nat), j ≤ es.length ∧ i = .int .i64 j ∧ s = .bool (bd && (es.take j).all (hasB (names xs))) ∧ wr = w8) (fun _ i _ => es.length - (intOf i).toNat)
        case atStart => exact ⟨0, Nat.zero_le _, rfl, by rw [HN1.out], rfl⟩
        case round =>
          obtain ⟨j, hj, rfl, rfl, rfl⟩ := hrel
          by_cases hlt : j < es.length
          · have hin := ref_in HL8.out.nm (sel es j)
            obtain ⟨b, o, rfl, hcs⟩ := HSE.out.get j hlt
            have hck := hcs j hlt
            have hat := all_take es (hasB (names xs)) j hlt
            have hbl := World.block_lt_of_cell? _ _ hck
            simp only at hbl
            clear hcs
            have hnew : (bd && (es.take (j + 1)).all (hasB (names xs))) = ((bd && (es.take j).all (hasB (names xs))) && hasB (names xs) (sel es j)) := by rw [hat, Bool.and_assoc]
            generalize sel es j = y at *
            generalize hbj : (bd && (es.take j).all (hasB (names xs))) = bj at *
            have HIN := Lib.hid hin
            clear hin hat
            cases bj
            · rw [Bool.false_and] at hnew
              have HNEW := Lib.hid hnew
              clear hnew hbj
              go_wp2_with (fail)
              go_roundw
              case rel => exact ⟨j + 1, by omega, by go_num, by rw [HNEW.out], by simp⟩
              case measure => simp [intOf]; omega
            · rw [Bool.true_and] at hnew
              cases hh : hasB (names xs) y
              all_goals
                rw [hh] at hnew HIN
                have HNEW := Lib.hid hnew
                clear hnew hbj hh
                go_wp2_with (fail)
                refine HIN.out.mono ?_
                rintro e wz ⟨rfl, rfl⟩
                go_wp2_with (fail)
                go_roundw
                case rel => exact ⟨j + 1, by omega, by go_num, by rw [HNEW.out], by simp⟩
                case measure => simp [intOf]; omega
          · obtain rfl : j = es.length := by omega
            rw [List.take_length]
            obtain ⟨hB8, hx8⟩ := HBK.out _ HL8.out.below
            have hcl := HCL.out _ hB8
            have hi2 := HI2.out
            generalize hbf : (bd && es.all (hasB (names xs))) = bf at *
            obtain ⟨⟨r0, r1, r2, r3, r4, r5, r6, r7, r8⟩, s0, s1, s2, s3, s4, s5, s6, s7, s8⟩ := cells9' hx8
            have rl := lt_of_block hx8
            have HCC := Lib.hid hcl; have HB8 := Lib.hid hB8
            clear hcl hB8 hx8 HCL HI2 hbf
            generalize closedF xs t = R at *
            obtain ⟨R1, R2⟩ := R
            have hi3 : (R2 == 0) = bf := hi2
            clear hi2
            go_wp2_with (fail)
            refine HCC.out.mono ?_
            rintro e w9 ⟨rfl, hb9⟩
            have HB9 := Lib.hid (HB8.out.trans (hb9.mono HB8.out.size))
            clear hb9 r0 r1 r2 r3 r4 r5 r6 r7 r8 s0 s1 s2 s3 s4 s5 s6 s7 s8 rl
            cases bf
            all_goals
              go_wp2_with (fail)
              refine (HAW.out _ HB9.out).mono ?_
              rintro e w10 ⟨rfl, hb10⟩
              have HB10 := Lib.hid (HB9.out.trans (hb10.mono HB9.out.size))
              clear hb10
              go_wp2_with (fail)
              go_ret
              exact ⟨rfl, HB10.out⟩
end Scope
end Go.Proofs.YtkcadkjpneoobaaDoor
