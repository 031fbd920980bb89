/- The program's reading of tokens: brackets. -/
import Derived.Test.YtlmaphaipcfppaaGreatDoorParseP13
import Derived.Test.YtlmaphaipcfppaaGreatDoorParseP6
import Derived.Deep.RegionHeld3
import Derived.Deep.LoopGhost
import Derived.RegionTactic
namespace Go.Proofs.YtlmaphaipcfppaaGreatDoor
open Go.RowKit
set_option linter.unusedVariables false
set_option linter.unusedSimpArgs false
namespace Parse
open Token (Tok tel ToksAt)
open Term (Tm Hd TmIs Kids ret_bool ret_i64 Reads veil Flat tcells)
open Words (str_no str_yes NumLaid)
open Chars (isin BytesAt)
set_option maxRecDepth 10000 in
set_option maxHeartbeats 25600000 in
theorem brackets_walk (m : Nat) (hE : ∀ m', m' ≤ m → PE 27 exprF m') (w : World) (P g n c i : Nat) (ts : List Tok) (r1 R : St × Tm) (h : PR w P g n c i ts) (hL : Lay w P) (ht : textOf ts i = wOpen) (hr1 : exprF ts m ⟨i + 1, false⟩ = some r1)
    (hR : (if r1.1.bad = true ∨ textOf ts r1.1.i ≠ wComma then some (wantF ts r1.1 wShut, r1.2) else (exprF ts m ⟨r1.1.i + 1, r1.1.bad⟩).map fun q => (wantF ts q.1 wShut, node 3 (plA ts i) [r1.2, q.2])) = some R) :
    Calls Tryz.prog 126 #[.pointer (some ⟨P, 0, none⟩)] w (PartEnd P g n c ts R w) := by
  have hne := text_not_end (x := wOpen) (by simp [wordsL]) ht
  have hbox : ∀ O : Obj, Below w.heap.size w (w.alloc O) := fun O => ((Below.refl _ _).alloc (Nat.le_refl _) O)
  have hhd := fun O => head_walk (w.alloc O) P g n c i ts 3 (h.below (hbox O)) hne
  have hold := h.old
  have hpl := h.pl
  have HHD := Lib.hid hhd; have HOLD := Lib.hid hold; have HL := Lib.hid hL; have HE := Lib.hid hE; have HPL := Lib.hid hpl; have HQ1 := Lib.hid hr1; have HRR := Lib.hid hR
  unfold headV at HHD
  clear hhd h hbox hold hL hE hpl hne ht hr1 hR
  go_enter Tryz.func126, Tryz.ntmps126
  go_wp2_with (fail)
  refine (HHD.out _).mono ?_
  rintro e w1 ⟨rfl, ho, hp⟩
  obtain ⟨h3, h4⟩ := box_off ho HOLD.out.1
  have HR := Lib.hid h3; have HO := Lib.hid h4; have HP := Lib.hid hp; have HSZ := Lib.hid (lt_of_block h3)
  clear ho hp h3 h4
  have hbx1 : ∀ O : Obj, Below w1.heap.size w1 (w1.alloc O) := fun O => (Below.refl _ _).alloc (Nat.le_refl _) O
  have hpt := fun O => HE.out m (Nat.le_refl _) (w1.alloc O) P g n c (i + 1) ts r1 (HP.out.below (hbx1 O)) (HL.out.off (HO.out.trans (Off.of_below (hbx1 O)))) HQ1.out
  have HPT := Lib.hid hpt
  clear hpt hbx1
  go_wp2_with (fail)
  refine (HPT.out _).mono ?_
  rintro e y0 (⟨hbd, ⟨h, p, l, d, rfl, hT⟩, ho, hp⟩ | ⟨hbd, rfl, ho⟩)
  rotate_left
  · unfold thrown strayV
    have hR := HRR.out
    rw [if_pos (.inl hbd)] at hR
    injection hR with hR
    have H := Lib.hid (And.intro (show R.1 = ⟨r1.1.i, true⟩ by rw [← hR]; show wantF ts r1.1 wShut = _; rw [want_bad ts hbd]; exact bad_eq hbd) (HO.out.trans (box_off ho (Nat.lt_of_lt_of_le HOLD.out.1 HO.out.size)).2))
    clear hbd ho hR
    go_wp2_with (fail)
    exact ⟨rfl, part_thrown H.out.1 H.out.2⟩
  obtain ⟨h3, h4⟩ := box_off ho (Nat.lt_of_lt_of_le HOLD.out.1 HO.out.size)
  have HHX := Lib.hid h3; have HO0 := Lib.hid (HO.out.trans h4); have HP0 := Lib.hid hp; have HT := Lib.hid hT; have HBD := Lib.hid hbd; have HSZ2 := Lib.hid (lt_of_block h3)
  have HR0 := Lib.hid (box_later HR.out h4 (by have := HOLD.out.1; omega))
  have hbx2 : ∀ O O' : Obj, Below y0.heap.size y0 ((y0.alloc O).alloc O') := fun O O' => ((Below.refl _ _).alloc (Nat.le_refl _) O).alloc (by simp) O'
  have his := fun O t => is_walk ((y0.alloc O).alloc (.cells #[.string wComma] t)) P g n c r1.1.i ts (some ⟨(y0.alloc O).heap.size, 0, none⟩) 1 1 [wComma] (hp.below (hbx2 _ _)) rfl (by unfold maxLen; omega) (strs_alloc (y0.alloc O) t [wComma]) (by intro x hx; simp at hx; subst hx; simp [wordsL])
  have his2 := fun O t => (show (y0.alloc O).heap.size = y0.heap.size + 1 by simp) ▸ his O t
  have HIS := Lib.hid his2
  clear hbd hT ho hp h3 h4 his his2 hbx2
  go_wp2_with (fail)
  refine (HIS.out _ _).mono ?_
  rintro e y1 ⟨rfl, hb1⟩
  have hbb : Below y0.heap.size y0 y1 ∧ y1.heap[y0.heap.size]? = some (.cells #[.int .u8 h.k, .int .u8 h.op, .int .i64 h.pl, .int .i64 h.n, .string h.name, .string h.arg, .string h.exn, .slice p l d] 29 (0, 0)) := by
    obtain ⟨_, hb2⟩ := one_box hb1
    obtain ⟨hb3, hb4⟩ := one_box hb2
    exact ⟨hb4, hb3⟩
  obtain ⟨hb2, htb⟩ := hbb
  have HTB1 := Lib.hid htb; have HYZ := Lib.hid (lt_of_block htb)
  have HRB1 := Lib.hid ((hb2.block _ (lt_of_block HR0.out)).trans HR0.out); have HHX1 := Lib.hid ((hb2.block _ (lt_of_block HHX.out)).trans HHX.out)
  have HO1 := Lib.hid (HO0.out.trans (Off.of_below hb2)); have HP1 := Lib.hid (HP0.out.below hb2)
  have HTM1 := Lib.hid (HT.out.reads' (Term.veil_to (P' := (fun b => decide (w1.heap.size + 1 ≤ b ∧ b ≠ y0.heap.size))) (W' := y1) fun b hbv hv => ⟨decide_eq_true (by have hv := of_decide_eq_true hv; have hs : w1.heap.size + 1 ≤ b := (by simpa using hv); omega), hb2.block b hbv⟩))
  clear hb1 hb2 htb HIS HHX HR0 HO0 HP0 HT
  cases hin : inF [wComma] (textOf ts r1.1.i)
  · have hnc : textOf ts r1.1.i ≠ wComma := fun e => by rw [e] at hin; revert hin; decide +kernel
    have hR := HRR.out
    rw [if_pos (.inr hnc)] at hR
    injection hR with hR
    have HREY : Hid (R = (wantF ts ⟨r1.1.i, false⟩ wShut, r1.2)) := Lib.hid (by rw [← hR, ← good_eq HBD.out])
    have HTY := HTM1; have HPY := HP1; have HOY := HO1; have HTBY := HTB1; have HRBY := HRB1
    clear hin hnc hR
    have hwd := word_walk y1 P g n c (r1.1.i) ts wShut HPY.out (by simp [wordsL])
    have HWD := Lib.hid hwd
    unfold WordEnd thrown strayV at HWD
    clear hwd
    go_wp2_with (fail)
    refine HWD.out.mono ?_
    rintro e z1 (⟨hx, rfl, ho, hp⟩ | ⟨hx, rfl, ho⟩)
    · have htb := box_later HTBY.out ho (by have := HOLD.out.1; have := HSZ.out; have := HSZ2.out; omega)
      obtain ⟨⟨t0, t1, t2, t3, t4, t5, t6, t7⟩, u0, u1, u2, u3, u4, u5, u6, u7⟩ := cells8' htb
      have hrb := box_later HRBY.out ho (by have := HOLD.out.1; omega)
      obtain ⟨⟨b0, b1, b2, b3, b4, b5, b6, b7⟩, f0, f1, f2, f3, f4, f5, f6, f7⟩ := cells8' hrb
      have rl := lt_of_block hrb
      have tl := lt_of_block htb
      have HRE : Hid (R = (⟨(r1.1.i) + 1, false⟩, r1.2)) := Lib.hid (by rw [HREY.out, want_ok hx])
      have H := Lib.hid (And.intro ho hp)
      clear hx ho hp htb hrb
      go_wp2_with (fail)
      refine bodyPost_ret (v := .agg #[.int .u8 h.k, .int .u8 h.op, .int .i64 h.pl, .int .i64 h.n, .string h.name, .string h.arg, .string h.exn, .slice p l d]) (by simp [results, Tryz.results126, go_sem, b0, b1, b2, b3, b4, b5, b6, b7]) rfl ?_
      have hbw := Below.set8 w z1 w.heap.size (Nat.le_refl _) (.int .u8 h.k) (.int .u8 h.op) (.int .i64 h.pl) (.int .i64 h.n) (.string h.name) (.string h.arg) (.string h.exn) (.slice p l d)
      rw [HRE.out]
      refine .inl ⟨rfl, ⟨h, p, l, d, rfl, HTY.out.reads' (Term.veil_to fun b hbv hv => ?_)⟩, (HOY.out.trans H.out.1).then hbw, H.out.2.keep hbw HOLD.out.1 HOLD.out.2⟩
      have hv := of_decide_eq_true hv
      have := HOLD.out.1
      have := HSZ.out
      have := HSZ2.out
      exact ⟨decide_eq_true (by omega), (set8_other _ _ _ _ _ _ _ _ _ _ _ (by omega)).trans (H.out.1.block b hbv (by omega))⟩
    · have H := Lib.hid (And.intro (show R.1 = ⟨r1.1.i, true⟩ by rw [HREY.out, want_no hx]) (HOY.out.trans ho))
      clear hx ho
      go_wp2_with (fail)
      exact ⟨rfl, part_thrown H.out.1 H.out.2⟩
  · have hc : textOf ts r1.1.i = wComma := by have := in_mem hin; simpa using this
    have hR := HRR.out
    rw [if_neg (by rw [HBD.out, hc]; simp)] at hR
    obtain ⟨q, hq, hR⟩ := Option.map_eq_some_iff.1 hR
    rw [HBD.out, ← want_ok hc] at hq
    have hbh := fun W (hb : Below y1.heap.size y1 W) => behind_walk m (HE.out m (Nat.le_refl _)) W P g n c r1.1.i ts wComma q (HP1.out.below hb) (HL.out.off (HO1.out.trans (Off.of_below hb))) (by simp [wordsL]) hq
    have hdr : Below y1.heap.size y1 y1.drew := (Below.refl _ _).drew
    have HBH := Lib.hid hbh; have HDR := Lib.hid hdr; have HREQ := Lib.hid hR.symm
    clear hin hc hR hq hbh hdr
    go_wp2_with (fail)
    refine wp_region_held_drew (S := fun W => W.heap[w1.heap.size]? = some (.cells #[.int .u8 3, .int .u8 0, .int .i64 (tel ts i).a, .int .i64 0, .string ⟨#[]⟩, .string ⟨#[]⟩, .string ⟨#[]⟩] 26 (0, 0))) (by kernel_rfl) HHX1.out (fun hHeld => ?_)
    refine wpAnyH_take (i := 0) (v := .agg #[.int .u8 3, .int .u8 0, .int .i64 (tel ts i).a, .int .i64 0, .string ⟨#[]⟩, .string ⟨#[]⟩, .string ⟨#[]⟩]) rfl (by kernel_rfl) (by kernel_rfl) (by kernel_rfl) (fun _ _ _ h => h) (Or.inl ⟨by rfl, ?_⟩) (by assumption) ?_
    · intro w' hSw
      obtain ⟨⟨q0, q1, q2, q3, q4, q5, q6⟩, e0, e1, e2, e3, e4, e5, e6⟩ := cells7' hSw
      go_simp
    try simp only [Act.put, List.setIfInBounds_toArray, List.set_cons_zero, List.set_cons_succ]
    refine wpAnyH_take (i := 2) (v := .pointer (some ⟨P, 0, none⟩)) rfl (by kernel_rfl) (by kernel_rfl) (by kernel_rfl) (fun _ _ _ h => h) (Or.inl ⟨by rfl, ?_⟩) (by assumption) ?_
    · intro w' hSw
      go_simp
    try simp only [Act.put, List.setIfInBounds_toArray, List.set_cons_zero, List.set_cons_succ]
    refine wpAnyH_take (i := 3) (v := .pointer (some ⟨P, 0, none⟩)) rfl (by kernel_rfl) (by kernel_rfl) (by kernel_rfl) (fun _ _ _ h => h) (Or.inl ⟨by rfl, ?_⟩) (by assumption) ?_
    · intro w' hSw
      go_simp
    try simp only [Act.put, List.setIfInBounds_toArray, List.set_cons_zero, List.set_cons_succ]
    refine wpAnyH_take (i := 4) (v := .func (.func 27) #[.pointer (some ⟨P, 0, none⟩)] #[]) rfl (by kernel_rfl) (by kernel_rfl) (by kernel_rfl) (fun _ _ _ h => h) (Or.inl ⟨by rfl, ?_⟩) (by assumption) ?_
    · intro w' hSw
      first | go_simp | rfl
    try simp only [Act.put, List.setIfInBounds_toArray, List.set_cons_zero, List.set_cons_succ]
    refine wpAnyH_ready (rs := [1, 5]) (by kernel_rfl) (by simp) ?_
    refine AllReadyH.cons rfl (fun K hK => ?_) (AllReadyH.cons rfl (fun K hK => ?_) AllReadyH.nil)
    · obtain ⟨⟨q0, q1, q2, q3, q4, q5, q6, q7⟩, e0, e1, e2, e3, e4, e5, e6, e7⟩ := cells8' HTB1.out
      have HH := Lib.hid hHeld
      clear hHeld
      go_simp
      refine hK.out _ _ HH.out (fun hHeld => ?_)
      try simp only [Act.put, List.setIfInBounds_toArray, List.set_cons_zero, List.set_cons_succ]
      clear hK K HH q0 q1 q2 q3 q4 q5 q6 q7 e0 e1 e2 e3 e4 e5 e6 e7
      refine wpAnyH_ready (rs := [5]) (by kernel_rfl) (by simp) ?_
      refine AllReadyH.cons rfl (fun K hK => ?_) AllReadyH.nil
      have HH := Lib.hid hHeld
      clear hHeld
      go_simp
      refine (HBH.out _ HDR.out).mono ?_
      rintro e y2 (⟨hbd, ⟨h2, p2, l2, d2, rfl, hT2⟩, ho4, hp4⟩ | ⟨hbd, rfl, ho4⟩)
      rotate_left
      · unfold thrown strayV
        have H := Lib.hid (And.intro (show R.1 = ⟨q.1.i, true⟩ by rw [HREQ.out]; show wantF ts q.1 wShut = _; rw [want_bad ts hbd]; exact bad_eq hbd) (HO1.out.trans ((Off.of_below HDR.out).trans ho4)))
        exact ⟨rfl, part_thrown H.out.1 H.out.2⟩
      have hX := box_later HH.out ho4 (by have := HOLD.out.1; have := HSZ.out; omega)
      have HTB2 := Lib.hid (box_later HTB1.out (P := P) (w := y1) (w' := y2) ((Off.of_below HDR.out).trans ho4) (by have := HOLD.out.1; have := HSZ.out; have := HSZ2.out; omega))
      have HRB2 := Lib.hid (box_later HRB1.out (P := P) (w := y1) (w' := y2) ((Off.of_below HDR.out).trans ho4) (by have := HOLD.out.1; omega))
      have hOY : Off P y1 y2 := (Off.of_below HDR.out).trans ho4
      have HTA := Lib.hid (HTM1.out.reads' (Term.veil_to (P' := (fun b => decide (w1.heap.size + 1 ≤ b ∧ b ≠ y0.heap.size))) (W' := y2) fun b hbv hv => ⟨hv, hOY.block b hbv (by have hv := of_decide_eq_true hv; have := HOLD.out.1; have := HSZ.out; omega)⟩))
      have HTQ := Lib.hid (hT2.reads' (Term.veil_to (P' := (fun b => decide (w1.heap.size + 1 ≤ b ∧ b ≠ y0.heap.size))) (W' := y2) fun b hbv hv => ⟨decide_eq_true (by have hv := of_decide_eq_true hv; have := HSZ2.out; have := HYZ.out; have hz : y1.drew.heap.size = y1.heap.size := rfl; omega), rfl⟩))
      have HSY := Lib.hid hOY.size
      have H := Lib.hid (And.intro hbd (And.intro (HO1.out.trans hOY) hp4))
      clear hbd hT2 ho4 hp4 hOY HH
      refine hK.out _ _ hX (fun hHeld => ?_)
      try simp only [Act.put, List.setIfInBounds_toArray, List.set_cons_zero, List.set_cons_succ]
      clear hK hX K
      refine wpAnyH_ready (rs := [6]) (by kernel_rfl) (by simp) ?_
      refine AllReadyH.cons rfl (fun K hK => ?_) AllReadyH.nil
      have HH := Lib.hid hHeld
      clear hHeld
      go_simp
      refine hK.out _ _ ((Below.heap_alloc y2 (.cells #[.int .u8 h.k, .int .u8 h.op, .int .i64 h.pl, .int .i64 h.n, .string h.name, .string h.arg, .string h.exn, .slice p l d, .int .u8 h2.k, .int .u8 h2.op, .int .i64 h2.pl, .int .i64 h2.n, .string h2.name, .string h2.arg, .string h2.exn, .slice p2 l2 d2] 29) _ (lt_of_block HH.out)).trans HH.out) (fun hHeld => ?_)
      try simp only [Act.put, List.setIfInBounds_toArray, List.set_cons_zero, List.set_cons_succ]
      clear hK K HH
      refine wpAnyH_ready (rs := [7]) (by kernel_rfl) (by simp) ?_
      refine AllReadyH.cons rfl (fun K hK => ?_) AllReadyH.nil
      have HH := Lib.hid hHeld
      clear hHeld
      go_simp
      refine (node_walk _ 3 0 (tel ts i).a 0 ⟨#[]⟩ ⟨#[]⟩ ⟨#[]⟩ (some ⟨y2.heap.size, 0, none⟩) 2 2).mono ?_
      rintro e y3 ⟨rfl, hbz⟩
      obtain ⟨hrow, hbz2⟩ := one_box hbz
      have hX := (hbz.block _ (lt_of_block HH.out)).trans HH.out
      have HROW := Lib.hid hrow; have HBZ := Lib.hid hbz2
      have HTB3 := Lib.hid ((hbz2.block _ (lt_of_block HTB2.out)).trans HTB2.out)
      have HRB3 := Lib.hid ((hbz2.block _ (lt_of_block HRB2.out)).trans HRB2.out)
      clear hrow hbz hbz2 HH
      refine hK.out _ _ hX (fun hHeld => ?_)
      try simp only [Act.put, List.setIfInBounds_toArray, List.set_cons_zero, List.set_cons_succ]
      clear hK hX K
      refine wpAnyH_ready (rs := [8]) (by kernel_rfl) (by simp) ?_
      refine AllReadyH.cons rfl (fun K hK => ?_) AllReadyH.nil
      have HH := Lib.hid hHeld
      clear hHeld
      obtain ⟨⟨t0, t1, t2, t3, t4, t5, t6, t7⟩, u0, u1, u2, u3, u4, u5, u6, u7⟩ := cells8' HTB3.out
      have tl := lt_of_block HTB3.out
      go_simp
      refine hK.out _ _ ((set8_other _ _ _ _ _ _ _ _ _ _ _ (by have := HSZ2.out; omega)).trans HH.out) (fun hHeld => ?_)
      refine wpAnyH_done (by kernel_rfl) ?_ _
      clear hK K hHeld HH t0 t1 t2 t3 t4 t5 t6 t7 u0 u1 u2 u3 u4 u5 u6 u7 tl
      have hb4 := Below.set8 w y3 y0.heap.size (by have := HSZ.out; have := HSZ2.out; omega) (.int .u8 3) (.int .u8 0) (.int .i64 (tel ts i).a) (.int .i64 0) (.string ⟨#[]⟩) (.string ⟨#[]⟩) (.string ⟨#[]⟩) (.slice (some ⟨y2.heap.size, 0, none⟩) 2 2)
      have HTBY := Lib.hid (set8_block (a := .int .u8 3) (b := .int .u8 0) (c := .int .i64 (tel ts i).a) (d := .int .i64 0) (e := .string ⟨#[]⟩) (f := .string ⟨#[]⟩) (g := .string ⟨#[]⟩) (h := .slice (some ⟨y2.heap.size, 0, none⟩) 2 2) HTB3.out)
      have HRBY := Lib.hid ((set8_other y3 y0.heap.size (.int .u8 3) (.int .u8 0) (.int .i64 (tel ts i).a) (.int .i64 0) (.string ⟨#[]⟩) (.string ⟨#[]⟩) (.string ⟨#[]⟩) (.slice (some ⟨y2.heap.size, 0, none⟩) 2 2) w.heap.size (by have := HSZ.out; have := HSZ2.out; omega)).trans HRB3.out)
      have hvv : y0.heap.size < y2.heap.size := Nat.lt_of_lt_of_le HYZ.out HSY.out
      have hrow := tm_row (V := (fun b => decide (w1.heap.size + 1 ≤ b ∧ b ≠ y0.heap.size))) (h := ⟨3, 0, plA ts i, 0, ⟨#[]⟩, ⟨#[]⟩, ⟨#[]⟩⟩) (ts := [r1.2, q.2]) (xs := tcells h p l d ++ tcells h2 p2 l2 d2) (decide_eq_true (by have := HSZ2.out; omega)) HROW.out (((Flat.one HTA.out).append (Flat.one HTQ.out)).reads (veil_below HBZ.out)) (hd_any (by omega) HPL.out e0_small e0_small e0_small) (by unfold maxLen; show (2 : Nat) ≤ _; omega)
      have HTY := Lib.hid (hrow.reads' (Term.veil_to (P' := (fun b => decide (w1.heap.size + 1 ≤ b ∧ b ≠ y0.heap.size))) (W' := ((((((((y3.setCell ⟨y0.heap.size, 0, none⟩ (.int .u8 3)).setCell ⟨y0.heap.size, 1, none⟩ (.int .u8 0)).setCell ⟨y0.heap.size, 2, none⟩ (.int .i64 (tel ts i).a)).setCell ⟨y0.heap.size, 3, none⟩ (.int .i64 0)).setCell ⟨y0.heap.size, 4, none⟩ (.string ⟨#[]⟩)).setCell ⟨y0.heap.size, 5, none⟩ (.string ⟨#[]⟩)).setCell ⟨y0.heap.size, 6, none⟩ (.string ⟨#[]⟩)).setCell ⟨y0.heap.size, 7, none⟩ (.slice (some ⟨y2.heap.size, 0, none⟩) 2 2))) fun b hbv hv => ⟨hv, set8_other _ _ _ _ _ _ _ _ _ _ _ (of_decide_eq_true hv).2⟩))
      have HPY := Lib.hid ((H.out.2.2.below HBZ.out).keep hb4 HOLD.out.1 HOLD.out.2)
      have HOY := Lib.hid ((H.out.2.1.trans (Off.of_below HBZ.out)).then hb4)
      have HREY : Hid (R = (wantF ts ⟨q.1.i, false⟩ wShut, node 3 (plA ts i) [r1.2, q.2])) := Lib.hid (by rw [HREQ.out, ← good_eq H.out.1])
      clear hb4 hrow HTA HTQ HTB1 HTB2 HTB3 HRB1 HRB2 HRB3
      generalize hy4 : ((((((((y3.setCell ⟨y0.heap.size, 0, none⟩ (.int .u8 3)).setCell ⟨y0.heap.size, 1, none⟩ (.int .u8 0)).setCell ⟨y0.heap.size, 2, none⟩ (.int .i64 (tel ts i).a)).setCell ⟨y0.heap.size, 3, none⟩ (.int .i64 0)).setCell ⟨y0.heap.size, 4, none⟩ (.string ⟨#[]⟩)).setCell ⟨y0.heap.size, 5, none⟩ (.string ⟨#[]⟩)).setCell ⟨y0.heap.size, 6, none⟩ (.string ⟨#[]⟩)).setCell ⟨y0.heap.size, 7, none⟩ (.slice (some ⟨y2.heap.size, 0, none⟩) 2 2)) = y4 at *
      clear hy4
      have hwd := word_walk y4 P g n c (q.1.i) ts wShut HPY.out (by simp [wordsL])
      have HWD := Lib.hid hwd
      unfold WordEnd thrown strayV at HWD
      clear hwd
      go_wp2_with (fail)
      refine HWD.out.mono ?_
      rintro e z1 (⟨hx, rfl, ho, hp⟩ | ⟨hx, rfl, ho⟩)
      · have htb := box_later HTBY.out ho (by have := HOLD.out.1; have := HSZ.out; have := HSZ2.out; omega)
        obtain ⟨⟨t0, t1, t2, t3, t4, t5, t6, t7⟩, u0, u1, u2, u3, u4, u5, u6, u7⟩ := cells8' htb
        have hrb := box_later HRBY.out ho (by have := HOLD.out.1; omega)
        obtain ⟨⟨b0, b1, b2, b3, b4, b5, b6, b7⟩, f0, f1, f2, f3, f4, f5, f6, f7⟩ := cells8' hrb
        have rl := lt_of_block hrb
        have tl := lt_of_block htb
        have HRE : Hid (R = (⟨(q.1.i) + 1, false⟩, node 3 (plA ts i) [r1.2, q.2])) := Lib.hid (by rw [HREY.out, want_ok hx])
        have H := Lib.hid (And.intro ho hp)
        clear hx ho hp htb hrb
        go_wp2_with (fail)
        refine bodyPost_ret (v := .agg #[.int .u8 3, .int .u8 0, .int .i64 (tel ts i).a, .int .i64 0, .string ⟨#[]⟩, .string ⟨#[]⟩, .string ⟨#[]⟩, .slice (some ⟨y2.heap.size, 0, none⟩) 2 2]) (by simp [results, Tryz.results126, go_sem, b0, b1, b2, b3, b4, b5, b6, b7]) rfl ?_
        have hbw := Below.set8 w z1 w.heap.size (Nat.le_refl _) (.int .u8 3) (.int .u8 0) (.int .i64 (tel ts i).a) (.int .i64 0) (.string ⟨#[]⟩) (.string ⟨#[]⟩) (.string ⟨#[]⟩) (.slice (some ⟨y2.heap.size, 0, none⟩) 2 2)
        rw [HRE.out]
        refine .inl ⟨rfl, ⟨⟨3, 0, plA ts i, 0, ⟨#[]⟩, ⟨#[]⟩, ⟨#[]⟩⟩, some ⟨y2.heap.size, 0, none⟩, 2, 2, rfl, HTY.out.reads' (Term.veil_to fun b hbv hv => ?_)⟩, (HOY.out.trans H.out.1).then hbw, H.out.2.keep hbw HOLD.out.1 HOLD.out.2⟩
        have hv := of_decide_eq_true hv
        have := HOLD.out.1
        have := HSZ.out
        have := HSZ2.out
        exact ⟨decide_eq_true (by omega), (set8_other _ _ _ _ _ _ _ _ _ _ _ (by omega)).trans (H.out.1.block b hbv (by omega))⟩
      · have H := Lib.hid (And.intro (show R.1 = ⟨q.1.i, true⟩ by rw [HREY.out, want_no hx]) (HOY.out.trans ho))
        clear hx ho
        go_wp2_with (fail)
        exact ⟨rfl, part_thrown H.out.1 H.out.2⟩
    · have HH := Lib.hid hHeld
      clear hHeld
      go_simp
      refine (HBH.out _ HDR.out).mono ?_
      rintro e y2 (⟨hbd, ⟨h2, p2, l2, d2, rfl, hT2⟩, ho4, hp4⟩ | ⟨hbd, rfl, ho4⟩)
      rotate_left
      · unfold thrown strayV
        have H := Lib.hid (And.intro (show R.1 = ⟨q.1.i, true⟩ by rw [HREQ.out]; show wantF ts q.1 wShut = _; rw [want_bad ts hbd]; exact bad_eq hbd) (HO1.out.trans ((Off.of_below HDR.out).trans ho4)))
        exact ⟨rfl, part_thrown H.out.1 H.out.2⟩
      have hX := box_later HH.out ho4 (by have := HOLD.out.1; have := HSZ.out; omega)
      have HTB2 := Lib.hid (box_later HTB1.out (P := P) (w := y1) (w' := y2) ((Off.of_below HDR.out).trans ho4) (by have := HOLD.out.1; have := HSZ.out; have := HSZ2.out; omega))
      have HRB2 := Lib.hid (box_later HRB1.out (P := P) (w := y1) (w' := y2) ((Off.of_below HDR.out).trans ho4) (by have := HOLD.out.1; omega))
      have hOY : Off P y1 y2 := (Off.of_below HDR.out).trans ho4
      have HTA := Lib.hid (HTM1.out.reads' (Term.veil_to (P' := (fun b => decide (w1.heap.size + 1 ≤ b ∧ b ≠ y0.heap.size))) (W' := y2) fun b hbv hv => ⟨hv, hOY.block b hbv (by have hv := of_decide_eq_true hv; have := HOLD.out.1; have := HSZ.out; omega)⟩))
      have HTQ := Lib.hid (hT2.reads' (Term.veil_to (P' := (fun b => decide (w1.heap.size + 1 ≤ b ∧ b ≠ y0.heap.size))) (W' := y2) fun b hbv hv => ⟨decide_eq_true (by have hv := of_decide_eq_true hv; have := HSZ2.out; have := HYZ.out; have hz : y1.drew.heap.size = y1.heap.size := rfl; omega), rfl⟩))
      have HSY := Lib.hid hOY.size
      have H := Lib.hid (And.intro hbd (And.intro (HO1.out.trans hOY) hp4))
      clear hbd hT2 ho4 hp4 hOY HH
      refine hK.out _ _ hX (fun hHeld => ?_)
      try simp only [Act.put, List.setIfInBounds_toArray, List.set_cons_zero, List.set_cons_succ]
      clear hK hX K
      refine wpAnyH_ready (rs := [1]) (by kernel_rfl) (by simp) ?_
      refine AllReadyH.cons rfl (fun K hK => ?_) AllReadyH.nil
      obtain ⟨⟨q0, q1, q2, q3, q4, q5, q6, q7⟩, e0, e1, e2, e3, e4, e5, e6, e7⟩ := cells8' HTB2.out
      have HH := Lib.hid hHeld
      clear hHeld
      go_simp
      refine hK.out _ _ HH.out (fun hHeld => ?_)
      try simp only [Act.put, List.setIfInBounds_toArray, List.set_cons_zero, List.set_cons_succ]
      clear hK K HH q0 q1 q2 q3 q4 q5 q6 q7 e0 e1 e2 e3 e4 e5 e6 e7
      refine wpAnyH_ready (rs := [6]) (by kernel_rfl) (by simp) ?_
      refine AllReadyH.cons rfl (fun K hK => ?_) AllReadyH.nil
      have HH := Lib.hid hHeld
      clear hHeld
      go_simp
      refine hK.out _ _ ((Below.heap_alloc y2 (.cells #[.int .u8 h.k, .int .u8 h.op, .int .i64 h.pl, .int .i64 h.n, .string h.name, .string h.arg, .string h.exn, .slice p l d, .int .u8 h2.k, .int .u8 h2.op, .int .i64 h2.pl, .int .i64 h2.n, .string h2.name, .string h2.arg, .string h2.exn, .slice p2 l2 d2] 29) _ (lt_of_block HH.out)).trans HH.out) (fun hHeld => ?_)
      try simp only [Act.put, List.setIfInBounds_toArray, List.set_cons_zero, List.set_cons_succ]
      clear hK K HH
      refine wpAnyH_ready (rs := [7]) (by kernel_rfl) (by simp) ?_
      refine AllReadyH.cons rfl (fun K hK => ?_) AllReadyH.nil
      have HH := Lib.hid hHeld
      clear hHeld
      go_simp
      refine (node_walk _ 3 0 (tel ts i).a 0 ⟨#[]⟩ ⟨#[]⟩ ⟨#[]⟩ (some ⟨y2.heap.size, 0, none⟩) 2 2).mono ?_
      rintro e y3 ⟨rfl, hbz⟩
      obtain ⟨hrow, hbz2⟩ := one_box hbz
      have hX := (hbz.block _ (lt_of_block HH.out)).trans HH.out
      have HROW := Lib.hid hrow; have HBZ := Lib.hid hbz2
      have HTB3 := Lib.hid ((hbz2.block _ (lt_of_block HTB2.out)).trans HTB2.out)
      have HRB3 := Lib.hid ((hbz2.block _ (lt_of_block HRB2.out)).trans HRB2.out)
      clear hrow hbz hbz2 HH
      refine hK.out _ _ hX (fun hHeld => ?_)
      try simp only [Act.put, List.setIfInBounds_toArray, List.set_cons_zero, List.set_cons_succ]
      clear hK hX K
      refine wpAnyH_ready (rs := [8]) (by kernel_rfl) (by simp) ?_
      refine AllReadyH.cons rfl (fun K hK => ?_) AllReadyH.nil
      have HH := Lib.hid hHeld
      clear hHeld
      obtain ⟨⟨t0, t1, t2, t3, t4, t5, t6, t7⟩, u0, u1, u2, u3, u4, u5, u6, u7⟩ := cells8' HTB3.out
      have tl := lt_of_block HTB3.out
      go_simp
      refine hK.out _ _ ((set8_other _ _ _ _ _ _ _ _ _ _ _ (by have := HSZ2.out; omega)).trans HH.out) (fun hHeld => ?_)
      refine wpAnyH_done (by kernel_rfl) ?_ _
      clear hK K hHeld HH t0 t1 t2 t3 t4 t5 t6 t7 u0 u1 u2 u3 u4 u5 u6 u7 tl
      have hb4 := Below.set8 w y3 y0.heap.size (by have := HSZ.out; have := HSZ2.out; omega) (.int .u8 3) (.int .u8 0) (.int .i64 (tel ts i).a) (.int .i64 0) (.string ⟨#[]⟩) (.string ⟨#[]⟩) (.string ⟨#[]⟩) (.slice (some ⟨y2.heap.size, 0, none⟩) 2 2)
      have HTBY := Lib.hid (set8_block (a := .int .u8 3) (b := .int .u8 0) (c := .int .i64 (tel ts i).a) (d := .int .i64 0) (e := .string ⟨#[]⟩) (f := .string ⟨#[]⟩) (g := .string ⟨#[]⟩) (h := .slice (some ⟨y2.heap.size, 0, none⟩) 2 2) HTB3.out)
      have HRBY := Lib.hid ((set8_other y3 y0.heap.size (.int .u8 3) (.int .u8 0) (.int .i64 (tel ts i).a) (.int .i64 0) (.string ⟨#[]⟩) (.string ⟨#[]⟩) (.string ⟨#[]⟩) (.slice (some ⟨y2.heap.size, 0, none⟩) 2 2) w.heap.size (by have := HSZ.out; have := HSZ2.out; omega)).trans HRB3.out)
      have hvv : y0.heap.size < y2.heap.size := Nat.lt_of_lt_of_le HYZ.out HSY.out
      have hrow := tm_row (V := (fun b => decide (w1.heap.size + 1 ≤ b ∧ b ≠ y0.heap.size))) (h := ⟨3, 0, plA ts i, 0, ⟨#[]⟩, ⟨#[]⟩, ⟨#[]⟩⟩) (ts := [r1.2, q.2]) (xs := tcells h p l d ++ tcells h2 p2 l2 d2) (decide_eq_true (by have := HSZ2.out; omega)) HROW.out (((Flat.one HTA.out).append (Flat.one HTQ.out)).reads (veil_below HBZ.out)) (hd_any (by omega) HPL.out e0_small e0_small e0_small) (by unfold maxLen; show (2 : Nat) ≤ _; omega)
      have HTY := Lib.hid (hrow.reads' (Term.veil_to (P' := (fun b => decide (w1.heap.size + 1 ≤ b ∧ b ≠ y0.heap.size))) (W' := ((((((((y3.setCell ⟨y0.heap.size, 0, none⟩ (.int .u8 3)).setCell ⟨y0.heap.size, 1, none⟩ (.int .u8 0)).setCell ⟨y0.heap.size, 2, none⟩ (.int .i64 (tel ts i).a)).setCell ⟨y0.heap.size, 3, none⟩ (.int .i64 0)).setCell ⟨y0.heap.size, 4, none⟩ (.string ⟨#[]⟩)).setCell ⟨y0.heap.size, 5, none⟩ (.string ⟨#[]⟩)).setCell ⟨y0.heap.size, 6, none⟩ (.string ⟨#[]⟩)).setCell ⟨y0.heap.size, 7, none⟩ (.slice (some ⟨y2.heap.size, 0, none⟩) 2 2))) fun b hbv hv => ⟨hv, set8_other _ _ _ _ _ _ _ _ _ _ _ (of_decide_eq_true hv).2⟩))
      have HPY := Lib.hid ((H.out.2.2.below HBZ.out).keep hb4 HOLD.out.1 HOLD.out.2)
      have HOY := Lib.hid ((H.out.2.1.trans (Off.of_below HBZ.out)).then hb4)
      have HREY : Hid (R = (wantF ts ⟨q.1.i, false⟩ wShut, node 3 (plA ts i) [r1.2, q.2])) := Lib.hid (by rw [HREQ.out, ← good_eq H.out.1])
      clear hb4 hrow HTA HTQ HTB1 HTB2 HTB3 HRB1 HRB2 HRB3
      generalize hy4 : ((((((((y3.setCell ⟨y0.heap.size, 0, none⟩ (.int .u8 3)).setCell ⟨y0.heap.size, 1, none⟩ (.int .u8 0)).setCell ⟨y0.heap.size, 2, none⟩ (.int .i64 (tel ts i).a)).setCell ⟨y0.heap.size, 3, none⟩ (.int .i64 0)).setCell ⟨y0.heap.size, 4, none⟩ (.string ⟨#[]⟩)).setCell ⟨y0.heap.size, 5, none⟩ (.string ⟨#[]⟩)).setCell ⟨y0.heap.size, 6, none⟩ (.string ⟨#[]⟩)).setCell ⟨y0.heap.size, 7, none⟩ (.slice (some ⟨y2.heap.size, 0, none⟩) 2 2)) = y4 at *
      clear hy4
      have hwd := word_walk y4 P g n c (q.1.i) ts wShut HPY.out (by simp [wordsL])
      have HWD := Lib.hid hwd
      unfold WordEnd thrown strayV at HWD
      clear hwd
      go_wp2_with (fail)
      refine HWD.out.mono ?_
      rintro e z1 (⟨hx, rfl, ho, hp⟩ | ⟨hx, rfl, ho⟩)
      · have htb := box_later HTBY.out ho (by have := HOLD.out.1; have := HSZ.out; have := HSZ2.out; omega)
        obtain ⟨⟨t0, t1, t2, t3, t4, t5, t6, t7⟩, u0, u1, u2, u3, u4, u5, u6, u7⟩ := cells8' htb
        have hrb := box_later HRBY.out ho (by have := HOLD.out.1; omega)
        obtain ⟨⟨b0, b1, b2, b3, b4, b5, b6, b7⟩, f0, f1, f2, f3, f4, f5, f6, f7⟩ := cells8' hrb
        have rl := lt_of_block hrb
        have tl := lt_of_block htb
        have HRE : Hid (R = (⟨(q.1.i) + 1, false⟩, node 3 (plA ts i) [r1.2, q.2])) := Lib.hid (by rw [HREY.out, want_ok hx])
        have H := Lib.hid (And.intro ho hp)
        clear hx ho hp htb hrb
        go_wp2_with (fail)
        refine bodyPost_ret (v := .agg #[.int .u8 3, .int .u8 0, .int .i64 (tel ts i).a, .int .i64 0, .string ⟨#[]⟩, .string ⟨#[]⟩, .string ⟨#[]⟩, .slice (some ⟨y2.heap.size, 0, none⟩) 2 2]) (by simp [results, Tryz.results126, go_sem, b0, b1, b2, b3, b4, b5, b6, b7]) rfl ?_
        have hbw := Below.set8 w z1 w.heap.size (Nat.le_refl _) (.int .u8 3) (.int .u8 0) (.int .i64 (tel ts i).a) (.int .i64 0) (.string ⟨#[]⟩) (.string ⟨#[]⟩) (.string ⟨#[]⟩) (.slice (some ⟨y2.heap.size, 0, none⟩) 2 2)
        rw [HRE.out]
        refine .inl ⟨rfl, ⟨⟨3, 0, plA ts i, 0, ⟨#[]⟩, ⟨#[]⟩, ⟨#[]⟩⟩, some ⟨y2.heap.size, 0, none⟩, 2, 2, rfl, HTY.out.reads' (Term.veil_to fun b hbv hv => ?_)⟩, (HOY.out.trans H.out.1).then hbw, H.out.2.keep hbw HOLD.out.1 HOLD.out.2⟩
        have hv := of_decide_eq_true hv
        have := HOLD.out.1
        have := HSZ.out
        have := HSZ2.out
        exact ⟨decide_eq_true (by omega), (set8_other _ _ _ _ _ _ _ _ _ _ _ (by omega)).trans (H.out.1.block b hbv (by omega))⟩
      · have H := Lib.hid (And.intro (show R.1 = ⟨q.1.i, true⟩ by rw [HREY.out, want_no hx]) (HOY.out.trans ho))
        clear hx ho
        go_wp2_with (fail)
        exact ⟨rfl, part_thrown H.out.1 H.out.2⟩
end Parse
end Go.Proofs.YtlmaphaipcfppaaGreatDoor
