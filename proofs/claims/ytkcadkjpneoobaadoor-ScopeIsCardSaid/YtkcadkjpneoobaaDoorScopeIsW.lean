/- The document's Closed, and the walk of layer 7's first statement. -/
import Derived.Test.YtkcadkjpneoobaaDoorScopeBad
import Derived.Test.YtkcadkjpneoobaaDoorScopeGr
import Derived.Test.YtkcadkjpneoobaaDoorScopeN
import Derived.Test.YtkcadkjpneoobaaDoorScopeK
namespace Go.Proofs.YtkcadkjpneoobaaDoor
open Go.RowKit
set_option linter.unusedVariables false
set_option linter.unusedSimpArgs false
namespace Scope
open Term (Tm Hd TmIs ret_bool ret_i64 tget wt wts wts_cons wts_nil okT okK mayT greatB drop_tget)
open Words (str_no str_yes sel StrsAt)

/-- What the last step of the program's answer is, by the document's walk. -/
theorem closed_bad (xs : List Ex) (t : Tm) (hm : mayT t = true) (h64 : ¬ 64 < xs.length) (hd : dupF [] xs = none) : closedF xs t = if (badF (names xs) (visT t [])).2 = true then ((badF (names xs) (visT t [])).1, 4) else (0, 0) := by
  unfold closedF
  rw [if_neg (by rw [hm]; simp), if_neg h64, hd]
  show (scT (clB (names xs)) (clS (names xs)) t [] (0, 0)).2 = _
  rw [scT_cl (names xs) (wt t) t [] (0, 0) (Nat.le_refl _)]
  unfold badF
  cases (visT t []).find? (fun p => !clN (names xs) p.1 p.2) <;> rfl
set_option maxRecDepth 100000 in
set_option maxHeartbeats 25600000 in
theorem closedD_walk (p : Option Addr) (n d : Nat) (xs : List Ex) (h : Hd) (q : Option Addr) (l c : Nat) (t : Tm) (w : World) (hE : IsExs w p n d xs) (hT : TmIs w h q l c t) (hw : wt t ≤ 400) (hx100 : xs.length ≤ 100) :
    Calls Tryd.prog 11 #[.agg #[.slice p n d, .int .u8 h.k, .int .u8 h.op, .int .i64 h.pl, .int .i64 h.n, .string h.name, .string h.arg, .string h.exn, .slice q l c]] w fun e w' => e = .returned (.tuple #[.int .i64 (closedF xs t).1, .int .i64 (closedF xs t).2]) ∧ Below w.heap.size w w' := by
  obtain ⟨hn, hnm, hx⟩ := hE
  subst hn
  unfold maxLen at hnm
  have hal : ∀ O : Obj, Below w.heap.size w (w.alloc O) := fun O => (Below.refl _ _).alloc (Nat.le_refl _) O
  have hmy := fun O : Obj => Term.refMay_walk t h q l c (w.alloc O) (hT.below (hal O)) (by omega)
  have hbd := fun W (hb : Below w.heap.size w W) (hok : okT t = true) v hv => badD_walk (wt t) t h q l c W v hv [] (names xs) (Nat.le_refl _) (hT.below hb) hok
  obtain ⟨k, op, pl, nn, nm, ar, ex⟩ := h
  have hX : ∀ W, Below (w.alloc (.cells #[.slice p xs.length d, .int .u8 k, .int .u8 op, .int .i64 pl, .int .i64 nn, .string nm, .string ar, .string ex, .slice q l c] 29)).heap.size (w.alloc (.cells #[.slice p xs.length d, .int .u8 k, .int .u8 op, .int .i64 pl, .int .i64 nn, .string nm, .string ar, .string ex, .slice q l c] 29)) W → Below w.heap.size w W ∧ W.heap[w.heap.size]? = some (.cells #[.slice p xs.length d, .int .u8 k, .int .u8 op, .int .i64 pl, .int .i64 nn, .string nm, .string ar, .string ex, .slice q l c] 29 (0, 0)) :=
    fun W hb => ⟨(hal _).trans (hb.mono (hal _).size), (hb.block _ (by simp)).trans (heap_alloc_new w _)⟩
  have HM := Lib.hid hmy; have HX := Lib.hid hX; have HE := Lib.hid hx; have HBD := Lib.hid hbd; have HW := Lib.hid hw; have HXL := Lib.hid hx100
  clear hmy hX hx hT hbd hw hal hx100
  go_enter Tryd.func11, Tryd.ntmps11
  go_wp2_with (fail)
  refine (HM.out _).mono ?_
  rintro e w1 ⟨rfl, hb1⟩
  obtain ⟨hB1, hbx⟩ := HX.out w1 hb1
  have HB1 := Lib.hid hB1; have HC1 := Lib.hid hb1
  obtain ⟨⟨r0, r1, r2, r3, r4, r5, r6, r7, r8⟩, s0, s1, s2, s3, s4, s5, s6, s7, s8⟩ := cells9' hbx
  have rl := lt_of_block hbx
  clear hb1 hB1 hbx HM
  cases hm : mayT t
  · have hr : closedF xs t = (0, 1) := if_pos hm
    have HR := Lib.hid hr
    clear hr hm
    go_wp2_with (fail)
    refine bodyPost_ret (v := .tuple #[.int .i64 0, .int .i64 1]) (by simp [results, Tryd.results11, go_sem]) rfl ⟨by rw [HR.out], HB1.out⟩
  by_cases h64 : 64 < xs.length
  · have hr : closedF xs t = ((eget xs 64).a, 3) := by
      unfold closedF
      rw [if_neg (by rw [hm]; simp), if_pos h64]
    have hi : (64 : Int) < (xs.length : Int) := by omega
    obtain ⟨b, o, rfl, K, c0, c1, c2⟩ := (HE.out.below HB1.out).get 64 h64
    have HR := Lib.hid hr
    clear hr hm
    go_wp2_with (fail)
    refine bodyPost_ret (v := .tuple #[.int .i64 (eget xs 64).a, .int .i64 3]) (by simp [results, Tryd.results11, go_sem]) rfl ⟨by rw [HR.out], HB1.out⟩
  have hi : ¬ (64 : Int) < (xs.length : Int) := by omega
  have hsome : ∀ a, dupF [] xs = some a → closedF xs t = (a, 4) := fun a ha => by
    unfold closedF
    rw [if_neg (by rw [hm]; simp), if_neg h64, ha]
  have hnone : dupF [] xs = none → closedF xs t = if (badF (names xs) (visT t [])).2 = true then ((badF (names xs) (visT t [])).1, 4) else (0, 0) := closed_bad xs t hm h64
  have z6 : (w1.alloc (.cells #[] 9)).heap.size = w1.heap.size + 1 := by simp
  have a6 : Below w1.heap.size w1 (w1.alloc (.cells #[] 9)) := (Below.refl _ _).alloc (Nat.le_refl _) _
  have hbk := fun W (hb : Below (w1.alloc (.cells #[] 9)).heap.size (w1.alloc (.cells #[] 9)) W) => HX.out W (HC1.out.trans ((a6.trans (hb.mono a6.size)).mono HC1.out.size))
  have HLI0 : Hid (LeftI (w1.alloc (.cells #[] 9)) w1.heap.size (w1.alloc (.cells #[] 9)) (.slice (some ⟨w1.heap.size, 0, none⟩) 0 0) (names (xs.take 0))) := Lib.hid ⟨Below.refl _ _, by rw [z6]; omega, .inl ⟨rfl, by rw [List.take_zero]; rfl, heap_alloc_new w1 _⟩⟩
  have HDU0 : Hid (dupF [] xs = dupF (names (xs.take 0)) (xs.drop 0)) := Lib.hid (by rw [List.take_zero, List.drop_zero]; rfl)
  have HBK := Lib.hid hbk; have HSOME := Lib.hid hsome; have HNONE := Lib.hid hnone; have HBD2 := Lib.hid (fun W hb => HBD.out W hb (may_ok hm))
  clear z6 a6 hbk hsome hnone hm h64 HX HC1 HBD
  go_wp2_with (fail)
  clear r0 r1 r2 r3 r4 r5 r6 r7 r8 s0 s1 s2 s3 s4 s5 s6 s7 s8 rl
  go_loopw [4, 5, 25] (fun v _ i wr => ∃ (j : Nat) (vt : Value), vt = v ∧ j ≤ xs.length ∧ i = .int .i64 j ∧ Hid (LeftI (w1.alloc (.cells #[] 9)) w1.heap.size wr vt (names (xs.take j))) ∧ Hid (dupF [] xs = dupF (names (xs.take j)) (xs.drop j))) (fun _ _ i _ => xs.length - (intOf i).toNat)
  case atStart => exact ⟨0, _, rfl, Nat.zero_le _, rfl, HLI0, HDU0⟩
  case round =>
    obtain ⟨j, vt, rfl, hj, rfl, HLI, HDU⟩ := hrel
    obtain ⟨hB4, hx4⟩ := HBK.out _ HLI.out.below
    obtain ⟨⟨r0, r1, r2, r3, r4, r5, r6, r7, r8⟩, s0, s1, s2, s3, s4, s5, s6, s7, s8⟩ := cells9' hx4
    have rl := lt_of_block hx4
    have HB4 := Lib.hid hB4
    clear hB4 hx4
    by_cases hlt : j < xs.length
    · have hin := ref_in HLI.out.nm (eget xs j).s
      obtain ⟨b, o, rfl, K, c0, c1, c2⟩ := (HE.out.below HB4.out).get j hlt
      have htk := take_eget xs j hlt
      have hln : (names (xs.take j)).length ≤ 90000 := by
        rw [names_len]
        have := List.length_take_le j xs
        have := HXL.out
        omega
      have hal := HLI.out.later ((Below.refl wr.heap.size wr).alloc (Nat.le_refl _) (.cells #[.string (eget xs j).s] 9))
      have hdu := HDU.out
      rw [drop_eget xs j hlt, dupF] at hdu
      cases hh : hasB (names (xs.take j)) (eget xs j).s
      · rw [hh, if_neg Bool.false_ne_true, ← htk] at hdu
        rw [hh] at hin
        generalize (eget xs j).s = y at *
        have HIN := Lib.hid hin; have HTK := Lib.hid htk; have HLN := Lib.hid hln; have HAL := Lib.hid hal; have HDN := Lib.hid hdu
        have hbl := World.block_lt_of_cell? wr _ c1
        simp only at hbl
        clear hin htk hln hal hdu hh
        go_wp2_with (fail)
        refine HIN.out.mono ?_
        rintro e wz ⟨rfl, rfl⟩
        go_wp2_with (at_builtin; go_loud (refine left_append (x := y) rfl (.tmp 42) (.tmp 49) rfl _ _ rfl HAL.out wr.heap.size rfl (by rw [World.cell?_alloc_mark]; rfl) HLN.out ?_); intro v9 w9 h9; rw [← HTK.out] at h9; have H9 := Lib.hid h9; clear h9)
        go_roundw
        case rel => exact ⟨j + 1, _, rfl, by omega, by go_num, H9, HDN⟩
        case measure => simp [intOf]; omega
      · rw [hh, if_pos rfl] at hdu
        rw [hh] at hin
        have HR := Lib.hid (HSOME.out _ hdu)
        have HIN := Lib.hid hin
        clear hin htk hln hal hdu hh
        go_wp2_with (fail)
        refine HIN.out.mono ?_
        rintro e wz ⟨rfl, rfl⟩
        go_wp2_with (fail)
        refine bodyPost_ret (v := .tuple #[.int .i64 (eget xs j).a, .int .i64 4]) (by simp [results, Tryd.results11, go_sem]) rfl ⟨by rw [HR.out], HB4.out⟩
    · obtain rfl : j = xs.length := by omega
      have hdu := HDU.out
      have hli := HLI.out
      rw [List.take_length] at hdu hli
      rw [List.drop_length] at hdu
      have hr := HNONE.out hdu
      have ha : Below wr.heap.size wr (wr.alloc (.cells #[] 9)) := (Below.refl _ _).alloc (Nat.le_refl _) _
      have hbd := HBD2.out (wr.alloc (.cells #[] 9)) (HB4.out.trans (ha.mono HB4.out.size)) (.slice (some ⟨wr.heap.size, 0, none⟩) 0 0) vt (rd_empty _ _ _) (hli.nm.rd.below ha) (by have := HW.out; simp; omega)
      have HBB := Lib.hid hbd; have HR := Lib.hid hr; have HA := Lib.hid ha
      clear hdu hli hr ha hbd HBD2 HNONE HSOME
      generalize badF (names xs) (visT t []) = R at *
      obtain ⟨R1, R2⟩ := R
      go_wp2_with (fail)
      refine HBB.out.mono ?_
      rintro e w2 ⟨rfl, hb2⟩
      have HB2 := Lib.hid (HB4.out.trans ((HA.out.trans (hb2.mono HA.out.size)).mono HB4.out.size))
      clear hb2 r0 r1 r2 r3 r4 r5 r6 r7 r8 s0 s1 s2 s3 s4 s5 s6 s7 s8 rl
      cases R2
      · have hr := HR.out
        rw [if_neg (by simp)] at hr
        have HRR := Lib.hid hr
        clear hr HR
        go_wp2_with (fail)
        refine bodyPost_ret (v := .tuple #[.int .i64 0, .int .i64 0]) (by simp [results, Tryd.results11, go_sem]) rfl ⟨by rw [HRR.out], HB2.out⟩
      · have hr := HR.out
        rw [if_pos rfl] at hr
        have HRR := Lib.hid hr
        clear hr HR
        go_wp2_with (fail)
        refine bodyPost_ret (v := .tuple #[.int .i64 R1, .int .i64 4]) (by simp [results, Tryd.results11, go_sem]) rfl ⟨by rw [HRR.out], HB2.out⟩
set_option maxRecDepth 100000 in
set_option maxHeartbeats 12800000 in
theorem scopeIs_walk (p : Option Addr) (n d : Nat) (xs : List Ex) (h : Hd) (q : Option Addr) (l c : Nat) (t : Tm) (w : World) (hE : IsExs w p n d xs) (hT : TmIs w h q l c t) (hkw : Words.KwLaid w) :
    Calls Tryd.prog 3 #[.agg #[.slice p n d, .int .u8 h.k, .int .u8 h.op, .int .i64 h.pl, .int .i64 h.n, .string h.name, .string h.arg, .string h.exn, .slice q l c]] w fun e w' => e = .returned (.bool true) ∧ Below w.heap.size w w' := by
  have hgr := fun W (hb : Below w.heap.size w W) => greatP_walk p n d xs h q l c t W ⟨hE.1, hE.2.1, hE.2.2.below hb⟩ (hT.below hb)
  have haw := fun W (hb : Below w.heap.size w W) => awake_walk W (hkw.below hb)
  have hcl := fun W (hb : Below w.heap.size w W) => closed_walk p n d xs h q l c t W hE.1 hE.2.1 (hE.2.2.below hb) (hT.below hb) (hkw.below hb)
  have hcd := fun (hw : wt t ≤ 400) (hx : xs.length ≤ 100) W (hb : Below w.heap.size w W) => closedD_walk p n d xs h q l c t W ⟨hE.1, hE.2.1, hE.2.2.below hb⟩ (hT.below hb) hw hx
  have hbox : ∀ O : Obj, Below w.heap.size w (w.alloc O) := fun O => (Below.refl _ _).alloc (Nat.le_refl _) O
  obtain ⟨k, op, pl, nn, nm, ar, ex⟩ := h
  have hX : ∀ W, Below (w.alloc (.cells #[.slice p n d, .int .u8 k, .int .u8 op, .int .i64 pl, .int .i64 nn, .string nm, .string ar, .string ex, .slice q l c] 29)).heap.size (w.alloc (.cells #[.slice p n d, .int .u8 k, .int .u8 op, .int .i64 pl, .int .i64 nn, .string nm, .string ar, .string ex, .slice q l c] 29)) W → Below w.heap.size w W ∧ W.heap[w.heap.size]? = some (.cells #[.slice p n d, .int .u8 k, .int .u8 op, .int .i64 pl, .int .i64 nn, .string nm, .string ar, .string ex, .slice q l c] 29 (0, 0)) :=
    fun W hb => ⟨(hbox _).trans (hb.mono (hbox _).size), (hb.block _ (by simp)).trans (heap_alloc_new w _)⟩
  have HGR := Lib.hid hgr; have HAW := Lib.hid haw; have HCL := Lib.hid hcl; have HCD := Lib.hid hcd; have HBOX := Lib.hid hbox; have HX := Lib.hid hX
  clear hgr haw hcl hcd hbox hX hE hT hkw
  go_enter Tryd.func3, Tryd.ntmps3
  go_wp2_with (fail)
  refine (HGR.out _ (HBOX.out _)).mono ?_
  rintro e w1 ⟨rfl, hb1⟩
  obtain ⟨hB1, hbx⟩ := HX.out w1 hb1
  have HB1 := Lib.hid hB1; have HC1 := Lib.hid hb1
  obtain ⟨⟨r0, r1, r2, r3, r4, r5, r6, r7, r8⟩, s0, s1, s2, s3, s4, s5, s6, s7, s8⟩ := cells9' hbx
  have rl := lt_of_block hbx
  clear hb1 hB1 hbx
  cases hg : greatP xs t
  rotate_left
  · clear hg
    go_wp2_with (fail)
    refine (HAW.out _ HB1.out).mono ?_
    rintro e w2 ⟨rfl, hb2⟩
    have HB2 := Lib.hid (HB1.out.trans (hb2.mono HB1.out.size))
    clear hb2
    go_wp2_with (fail)
    go_ret
    exact ⟨rfl, HB2.out⟩
  have HCD2 := Lib.hid (HCD.out (Term.small_of (gr_small hg).2).1 (gr_small hg).1)
  clear hg HCD
  generalize closedF xs t = R at *
  obtain ⟨R1, R2⟩ := R
  have q1 : (R1 == R1) = true := by simp
  have q2 : (R2 == R2) = true := by simp
  go_wp2_with (fail)
  refine (HCL.out _ HB1.out).mono ?_
  rintro e w2 ⟨rfl, hb2⟩
  have hc2 := HC1.out.trans (hb2.mono HC1.out.size)
  obtain ⟨hB2, hbx⟩ := HX.out w2 hc2
  have HB2 := Lib.hid hB2
  clear r0 r1 r2 r3 r4 r5 r6 r7 r8 s0 s1 s2 s3 s4 s5 s6 s7 s8 rl
  obtain ⟨⟨r0, r1, r2, r3, r4, r5, r6, r7, r8⟩, s0, s1, s2, s3, s4, s5, s6, s7, s8⟩ := cells9' hbx
  have rl := lt_of_block hbx
  clear hb2 hc2 hB2 hbx
  go_wp2_with (fail)
  refine (HCD2.out _ HB2.out).mono ?_
  rintro e w3 ⟨rfl, hb3⟩
  have HB3 := Lib.hid (HB2.out.trans (hb3.mono HB2.out.size))
  clear hb3
  go_wp2_with (fail)
  refine (HAW.out _ HB3.out).mono ?_
  rintro e w4 ⟨rfl, hb4⟩
  have HB4 := Lib.hid (HB3.out.trans (hb4.mono HB3.out.size))
  clear hb4
  go_wp2_with (fail)
  go_ret
  exact ⟨rfl, HB4.out⟩
end Scope
end Go.Proofs.YtkcadkjpneoobaaDoor
