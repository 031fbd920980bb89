/-The program's reading of tokens: brackets. The program's reading of tokens: handlers. The program's reading of tokens: all parts. -/
import Derived.Test.YtadpjkehflokcaaGreatDoorGParseG
import Derived.Test.YtadpjkehflokcaaGreatDoorGParseC
import Derived.Deep.RegionHeld3
import Derived.Deep.LoopGhost
import Derived.RegionTactic
import Derived.Test.YtadpjkehflokcaaGreatDoorGParseE
import Derived.Test.YtadpjkehflokcaaGreatDoorGParseF
namespace Go.Proofs.YtadpjkehflokcaaGreatDoor
open Go.RowKit
set_option linter.unusedVariables false
set_option linter.unusedSimpArgs false
namespace Parse
open Token (Tok tel ToksAt)
open Term (Tm Hd TmIs Kids ret_bool ret_i64 Reads veil Flat tcells)
open Words (str_no str_yes NumLaid)
open Chars (isin BytesAt)
set_option maxRecDepth 10000 in
set_option maxHeartbeats 25600000 in
theorem brackets_walk (m : Nat) (hE : ∀ m', m' ≤ m → PE 26 exprF m') (w : World) (P g n c i : Nat) (ts : List Tok) (r1 R : St × Tm) (h : PR w P g n c i ts) (hL : Lay w P) (ht : textOf ts i = wOpen) (hr1 : exprF ts m ⟨i + 1, false⟩ = some r1)
    (hR : (if r1.1.bad = true ∨ textOf ts r1.1.i ≠ wComma then some (wantF ts r1.1 wShut, r1.2) else (exprF ts m ⟨r1.1.i + 1, r1.1.bad⟩).map fun q => (wantF ts q.1 wShut, node 3 (plA ts i) [r1.2, q.2])) = some R) :
    Calls Tryz.prog 168 #[.pointer (some ⟨P, 0, none⟩)] w (PartEnd P g n c ts R w) := by
  have hne := text_not_end (x := wOpen) (by simp [wordsL]) ht
  have hbox : ∀ O : Obj, Below w.heap.size w (w.alloc O) := fun O => ((Below.refl _ _).alloc (Nat.le_refl _) O)
  have hhd := fun O => head_walk (w.alloc O) P g n c i ts 3 (h.below (hbox O)) hne
  have hold := h.old
  have hpl := h.pl
  have HHD := Lib.hid hhd; have HOLD := Lib.hid hold; have HL := Lib.hid hL; have HE := Lib.hid hE; have HPL := Lib.hid hpl; have HQ1 := Lib.hid hr1; have HRR := Lib.hid hR
  unfold headV at HHD
  clear hhd h hbox hold hL hE hpl hne ht hr1 hR
  go_enter Tryz.func168, Tryz.ntmps168
  go_wp2_with (fail)
  refine (HHD.out _).mono ?_
  rintro e w1 ⟨rfl, ho, hp⟩
  obtain ⟨h3, h4⟩ := box_off ho HOLD.out.1
  have HR := Lib.hid h3; have HO := Lib.hid h4; have HP := Lib.hid hp; have HSZ := Lib.hid (lt_of_block h3)
  clear ho hp h3 h4
  have hbx1 : ∀ O : Obj, Below w1.heap.size w1 (w1.alloc O) := fun O => (Below.refl _ _).alloc (Nat.le_refl _) O
  have hpt := fun O => HE.out m (Nat.le_refl _) (w1.alloc O) P g n c (i + 1) ts r1 (HP.out.below (hbx1 O)) (HL.out.off (HO.out.trans (Off.of_below (hbx1 O)))) HQ1.out
  have HPT := Lib.hid hpt
  clear hpt hbx1
  go_wp2_with (fail)
  refine (HPT.out _).mono ?_
  rintro e y0 (⟨hbd, ⟨h, p, l, d, rfl, hT⟩, ho, hp⟩ | ⟨hbd, rfl, ho⟩)
  rotate_left
  · unfold thrown strayV
    have hR := HRR.out
    rw [if_pos (.inl hbd)] at hR
    injection hR with hR
    have H := Lib.hid (And.intro (show R.1 = ⟨r1.1.i, true⟩ by rw [← hR]; show wantF ts r1.1 wShut = _; rw [want_bad ts hbd]; exact bad_eq hbd) (HO.out.trans (box_off ho (Nat.lt_of_lt_of_le HOLD.out.1 HO.out.size)).2))
    clear hbd ho hR
    go_wp2_with (fail)
    exact ⟨rfl, part_thrown H.out.1 H.out.2⟩
  obtain ⟨h3, h4⟩ := box_off ho (Nat.lt_of_lt_of_le HOLD.out.1 HO.out.size)
  have HHX := Lib.hid h3; have HO0 := Lib.hid (HO.out.trans h4); have HP0 := Lib.hid hp; have HT := Lib.hid hT; have HBD := Lib.hid hbd; have HSZ2 := Lib.hid (lt_of_block h3)
  have HR0 := Lib.hid (box_later HR.out h4 (by have := HOLD.out.1; omega))
  have hbx2 : ∀ O O' : Obj, Below y0.heap.size y0 ((y0.alloc O).alloc O') := fun O O' => ((Below.refl _ _).alloc (Nat.le_refl _) O).alloc (by simp) O'
  have his := fun O t => is_walk ((y0.alloc O).alloc (.cells #[.string wComma] t)) P g n c r1.1.i ts (some ⟨(y0.alloc O).heap.size, 0, none⟩) 1 1 [wComma] (hp.below (hbx2 _ _)) rfl (by unfold maxLen; omega) (strs_alloc (y0.alloc O) t [wComma]) (by intro x hx; simp at hx; subst hx; simp [wordsL])
  have his2 := fun O t => (show (y0.alloc O).heap.size = y0.heap.size + 1 by simp) ▸ his O t
  have HIS := Lib.hid his2
  clear hbd hT ho hp h3 h4 his his2 hbx2
  go_wp2_with (fail)
  refine (HIS.out _ _).mono ?_
  rintro e y1 ⟨rfl, hb1⟩
  have hbb : Below y0.heap.size y0 y1 ∧ y1.heap[y0.heap.size]? = some (.cells #[.int .u8 h.k, .int .u8 h.op, .int .i64 h.pl, .int .i64 h.n, .string h.name, .string h.arg, .string h.exn, .slice p l d] 29 (0, 0)) := by
    obtain ⟨_, hb2⟩ := one_box hb1
    obtain ⟨hb3, hb4⟩ := one_box hb2
    exact ⟨hb4, hb3⟩
  obtain ⟨hb2, htb⟩ := hbb
  have HTB1 := Lib.hid htb; have HYZ := Lib.hid (lt_of_block htb)
  have HRB1 := Lib.hid ((hb2.block _ (lt_of_block HR0.out)).trans HR0.out); have HHX1 := Lib.hid ((hb2.block _ (lt_of_block HHX.out)).trans HHX.out)
  have HO1 := Lib.hid (HO0.out.trans (Off.of_below hb2)); have HP1 := Lib.hid (HP0.out.below hb2)
  have HTM1 := Lib.hid (HT.out.reads' (Term.veil_to (P' := (fun b => decide (w1.heap.size + 1 ≤ b ∧ b ≠ y0.heap.size))) (W' := y1) fun b hbv hv => ⟨decide_eq_true (by have hv := of_decide_eq_true hv; have hs : w1.heap.size + 1 ≤ b := (by simpa using hv); omega), hb2.block b hbv⟩))
  clear hb1 hb2 htb HIS HHX HR0 HO0 HP0 HT
  cases hin : inF [wComma] (textOf ts r1.1.i)
  · have hnc : textOf ts r1.1.i ≠ wComma := fun e => by rw [e] at hin; revert hin; decide +kernel
    have hR := HRR.out
    rw [if_pos (.inr hnc)] at hR
    injection hR with hR
    have HREY : Hid (R = (wantF ts ⟨r1.1.i, false⟩ wShut, r1.2)) := Lib.hid (by rw [← hR, ← good_eq HBD.out])
    have HTY := HTM1; have HPY := HP1; have HOY := HO1; have HTBY := HTB1; have HRBY := HRB1
    clear hin hnc hR
    have hwd := word_walk y1 P g n c (r1.1.i) ts wShut HPY.out (by simp [wordsL])
    have HWD := Lib.hid hwd
    unfold WordEnd thrown strayV at HWD
    clear hwd
    go_wp2_with (fail)
    refine HWD.out.mono ?_
    rintro e z1 (⟨hx, rfl, ho, hp⟩ | ⟨hx, rfl, ho⟩)
    · have htb := box_later HTBY.out ho (by have := HOLD.out.1; have := HSZ.out; have := HSZ2.out; omega)
      obtain ⟨⟨t0, t1, t2, t3, t4, t5, t6, t7⟩, u0, u1, u2, u3, u4, u5, u6, u7⟩ := cells8' htb
      have hrb := box_later HRBY.out ho (by have := HOLD.out.1; omega)
      obtain ⟨⟨b0, b1, b2, b3, b4, b5, b6, b7⟩, f0, f1, f2, f3, f4, f5, f6, f7⟩ := cells8' hrb
      have rl := lt_of_block hrb
      have tl := lt_of_block htb
      have HRE : Hid (R = (⟨(r1.1.i) + 1, false⟩, r1.2)) := Lib.hid (by rw [HREY.out, want_ok hx])
      have H := Lib.hid (And.intro ho hp)
      clear hx ho hp htb hrb
      go_wp2_with (fail)
      refine bodyPost_ret (v := .agg #[.int .u8 h.k, .int .u8 h.op, .int .i64 h.pl, .int .i64 h.n, .string h.name, .string h.arg, .string h.exn, .slice p l d]) (by simp [results, Tryz.results168, go_sem, b0, b1, b2, b3, b4, b5, b6, b7]) rfl ?_
      have hbw := Below.set8 w z1 w.heap.size (Nat.le_refl _) (.int .u8 h.k) (.int .u8 h.op) (.int .i64 h.pl) (.int .i64 h.n) (.string h.name) (.string h.arg) (.string h.exn) (.slice p l d)
      rw [HRE.out]
      refine .inl ⟨rfl, ⟨h, p, l, d, rfl, HTY.out.reads' (Term.veil_to fun b hbv hv => ?_)⟩, (HOY.out.trans H.out.1).then hbw, H.out.2.keep hbw HOLD.out.1 HOLD.out.2⟩
      have hv := of_decide_eq_true hv
      have := HOLD.out.1
      have := HSZ.out
      have := HSZ2.out
      exact ⟨decide_eq_true (by omega), (set8_other _ _ _ _ _ _ _ _ _ _ _ (by omega)).trans (H.out.1.block b hbv (by omega))⟩
    · have H := Lib.hid (And.intro (show R.1 = ⟨r1.1.i, true⟩ by rw [HREY.out, want_no hx]) (HOY.out.trans ho))
      clear hx ho
      go_wp2_with (fail)
      exact ⟨rfl, part_thrown H.out.1 H.out.2⟩
  · have hc : textOf ts r1.1.i = wComma := by have := in_mem hin; simpa using this
    have hR := HRR.out
    rw [if_neg (by rw [HBD.out, hc]; simp)] at hR
    obtain ⟨q, hq, hR⟩ := Option.map_eq_some_iff.1 hR
    rw [HBD.out, ← want_ok hc] at hq
    have hbh := fun W (hb : Below y1.heap.size y1 W) => behind_walk m (HE.out m (Nat.le_refl _)) W P g n c r1.1.i ts wComma q (HP1.out.below hb) (HL.out.off (HO1.out.trans (Off.of_below hb))) (by simp [wordsL]) hq
    have hdr : Below y1.heap.size y1 y1.drew := (Below.refl _ _).drew
    have HBH := Lib.hid hbh; have HDR := Lib.hid hdr; have HREQ := Lib.hid hR.symm
    clear hin hc hR hq hbh hdr
    go_wp2_with (fail)
    refine wp_region_held_drew (S := fun W => W.heap[w1.heap.size]? = some (.cells #[.int .u8 3, .int .u8 0, .int .i64 (tel ts i).a, .int .i64 0, .string ⟨#[]⟩, .string ⟨#[]⟩, .string ⟨#[]⟩] 26 (0, 0))) (by kernel_rfl) HHX1.out (fun hHeld => ?_)
    refine wpAnyH_take (i := 0) (v := .agg #[.int .u8 3, .int .u8 0, .int .i64 (tel ts i).a, .int .i64 0, .string ⟨#[]⟩, .string ⟨#[]⟩, .string ⟨#[]⟩]) rfl (by kernel_rfl) (by kernel_rfl) (by kernel_rfl) (fun _ _ _ h => h) (Or.inl ⟨by rfl, ?_⟩) (by assumption) ?_
    · intro w' hSw
      obtain ⟨⟨q0, q1, q2, q3, q4, q5, q6⟩, e0, e1, e2, e3, e4, e5, e6⟩ := cells7' hSw
      go_simp
    try simp only [Act.put, List.setIfInBounds_toArray, List.set_cons_zero, List.set_cons_succ]
    refine wpAnyH_take (i := 2) (v := .pointer (some ⟨P, 0, none⟩)) rfl (by kernel_rfl) (by kernel_rfl) (by kernel_rfl) (fun _ _ _ h => h) (Or.inl ⟨by rfl, ?_⟩) (by assumption) ?_
    · intro w' hSw
      go_simp
    try simp only [Act.put, List.setIfInBounds_toArray, List.set_cons_zero, List.set_cons_succ]
    refine wpAnyH_take (i := 3) (v := .pointer (some ⟨P, 0, none⟩)) rfl (by kernel_rfl) (by kernel_rfl) (by kernel_rfl) (fun _ _ _ h => h) (Or.inl ⟨by rfl, ?_⟩) (by assumption) ?_
    · intro w' hSw
      go_simp
    try simp only [Act.put, List.setIfInBounds_toArray, List.set_cons_zero, List.set_cons_succ]
    refine wpAnyH_take (i := 4) (v := .func (.func 26) #[.pointer (some ⟨P, 0, none⟩)] #[]) rfl (by kernel_rfl) (by kernel_rfl) (by kernel_rfl) (fun _ _ _ h => h) (Or.inl ⟨by rfl, ?_⟩) (by assumption) ?_
    · intro w' hSw
      first | go_simp | rfl
    try simp only [Act.put, List.setIfInBounds_toArray, List.set_cons_zero, List.set_cons_succ]
    refine wpAnyH_ready (rs := [1, 5]) (by kernel_rfl) (by simp) ?_
    refine AllReadyH.cons rfl (fun K hK => ?_) (AllReadyH.cons rfl (fun K hK => ?_) AllReadyH.nil)
    · obtain ⟨⟨q0, q1, q2, q3, q4, q5, q6, q7⟩, e0, e1, e2, e3, e4, e5, e6, e7⟩ := cells8' HTB1.out
      have HH := Lib.hid hHeld
      clear hHeld
      go_simp
      refine hK.out _ _ HH.out (fun hHeld => ?_)
      try simp only [Act.put, List.setIfInBounds_toArray, List.set_cons_zero, List.set_cons_succ]
      clear hK K HH q0 q1 q2 q3 q4 q5 q6 q7 e0 e1 e2 e3 e4 e5 e6 e7
      refine wpAnyH_ready (rs := [5]) (by kernel_rfl) (by simp) ?_
      refine AllReadyH.cons rfl (fun K hK => ?_) AllReadyH.nil
      have HH := Lib.hid hHeld
      clear hHeld
      go_simp
      refine (HBH.out _ HDR.out).mono ?_
      rintro e y2 (⟨hbd, ⟨h2, p2, l2, d2, rfl, hT2⟩, ho4, hp4⟩ | ⟨hbd, rfl, ho4⟩)
      rotate_left
      · unfold thrown strayV
        have H := Lib.hid (And.intro (show R.1 = ⟨q.1.i, true⟩ by rw [HREQ.out]; show wantF ts q.1 wShut = _; rw [want_bad ts hbd]; exact bad_eq hbd) (HO1.out.trans ((Off.of_below HDR.out).trans ho4)))
        exact ⟨rfl, part_thrown H.out.1 H.out.2⟩
      have hX := box_later HH.out ho4 (by have := HOLD.out.1; have := HSZ.out; omega)
      have HTB2 := Lib.hid (box_later HTB1.out (P := P) (w := y1) (w' := y2) ((Off.of_below HDR.out).trans ho4) (by have := HOLD.out.1; have := HSZ.out; have := HSZ2.out; omega))
      have HRB2 := Lib.hid (box_later HRB1.out (P := P) (w := y1) (w' := y2) ((Off.of_below HDR.out).trans ho4) (by have := HOLD.out.1; omega))
      have hOY : Off P y1 y2 := (Off.of_below HDR.out).trans ho4
      have HTA := Lib.hid (HTM1.out.reads' (Term.veil_to (P' := (fun b => decide (w1.heap.size + 1 ≤ b ∧ b ≠ y0.heap.size))) (W' := y2) fun b hbv hv => ⟨hv, hOY.block b hbv (by have hv := of_decide_eq_true hv; have := HOLD.out.1; have := HSZ.out; omega)⟩))
      have HTQ := Lib.hid (hT2.reads' (Term.veil_to (P' := (fun b => decide (w1.heap.size + 1 ≤ b ∧ b ≠ y0.heap.size))) (W' := y2) fun b hbv hv => ⟨decide_eq_true (by have hv := of_decide_eq_true hv; have := HSZ2.out; have := HYZ.out; have hz : y1.drew.heap.size = y1.heap.size := rfl; omega), rfl⟩))
      have HSY := Lib.hid hOY.size
      have H := Lib.hid (And.intro hbd (And.intro (HO1.out.trans hOY) hp4))
      clear hbd hT2 ho4 hp4 hOY HH
      refine hK.out _ _ hX (fun hHeld => ?_)
      try simp only [Act.put, List.setIfInBounds_toArray, List.set_cons_zero, List.set_cons_succ]
      clear hK hX K
      refine wpAnyH_ready (rs := [6]) (by kernel_rfl) (by simp) ?_
      refine AllReadyH.cons rfl (fun K hK => ?_) AllReadyH.nil
      have HH := Lib.hid hHeld
      clear hHeld
      go_simp
      refine hK.out _ _ ((Below.heap_alloc y2 (.cells #[.int .u8 h.k, .int .u8 h.op, .int .i64 h.pl, .int .i64 h.n, .string h.name, .string h.arg, .string h.exn, .slice p l d, .int .u8 h2.k, .int .u8 h2.op, .int .i64 h2.pl, .int .i64 h2.n, .string h2.name, .string h2.arg, .string h2.exn, .slice p2 l2 d2] 29) _ (lt_of_block HH.out)).trans HH.out) (fun hHeld => ?_)
      try simp only [Act.put, List.setIfInBounds_toArray, List.set_cons_zero, List.set_cons_succ]
      clear hK K HH
      refine wpAnyH_ready (rs := [7]) (by kernel_rfl) (by simp) ?_
      refine AllReadyH.cons rfl (fun K hK => ?_) AllReadyH.nil
      have HH := Lib.hid hHeld
      clear hHeld
      go_simp
      refine (node_walk _ 3 0 (tel ts i).a 0 ⟨#[]⟩ ⟨#[]⟩ ⟨#[]⟩ (some ⟨y2.heap.size, 0, none⟩) 2 2).mono ?_
      rintro e y3 ⟨rfl, hbz⟩
      obtain ⟨hrow, hbz2⟩ := one_box hbz
      have hX := (hbz.block _ (lt_of_block HH.out)).trans HH.out
      have HROW := Lib.hid hrow; have HBZ := Lib.hid hbz2
      have HTB3 := Lib.hid ((hbz2.block _ (lt_of_block HTB2.out)).trans HTB2.out)
      have HRB3 := Lib.hid ((hbz2.block _ (lt_of_block HRB2.out)).trans HRB2.out)
      clear hrow hbz hbz2 HH
      refine hK.out _ _ hX (fun hHeld => ?_)
      try simp only [Act.put, List.setIfInBounds_toArray, List.set_cons_zero, List.set_cons_succ]
      clear hK hX K
      refine wpAnyH_ready (rs := [8]) (by kernel_rfl) (by simp) ?_
      refine AllReadyH.cons rfl (fun K hK => ?_) AllReadyH.nil
      have HH := Lib.hid hHeld
      clear hHeld
      obtain ⟨⟨t0, t1, t2, t3, t4, t5, t6, t7⟩, u0, u1, u2, u3, u4, u5, u6, u7⟩ := cells8' HTB3.out
      have tl := lt_of_block HTB3.out
      go_simp
      refine hK.out _ _ ((set8_other _ _ _ _ _ _ _ _ _ _ _ (by have := HSZ2.out; omega)).trans HH.out) (fun hHeld => ?_)
      refine wpAnyH_done (by kernel_rfl) ?_ _
      clear hK K hHeld HH t0 t1 t2 t3 t4 t5 t6 t7 u0 u1 u2 u3 u4 u5 u6 u7 tl
      have hb4 := Below.set8 w y3 y0.heap.size (by have := HSZ.out; have := HSZ2.out; omega) (.int .u8 3) (.int .u8 0) (.int .i64 (tel ts i).a) (.int .i64 0) (.string ⟨#[]⟩) (.string ⟨#[]⟩) (.string ⟨#[]⟩) (.slice (some ⟨y2.heap.size, 0, none⟩) 2 2)
      have HTBY := Lib.hid (set8_block (a := .int .u8 3) (b := .int .u8 0) (c := .int .i64 (tel ts i).a) (d := .int .i64 0) (e := .string ⟨#[]⟩) (f := .string ⟨#[]⟩) (g := .string ⟨#[]⟩) (h := .slice (some ⟨y2.heap.size, 0, none⟩) 2 2) HTB3.out)
      have HRBY := Lib.hid ((set8_other y3 y0.heap.size (.int .u8 3) (.int .u8 0) (.int .i64 (tel ts i).a) (.int .i64 0) (.string ⟨#[]⟩) (.string ⟨#[]⟩) (.string ⟨#[]⟩) (.slice (some ⟨y2.heap.size, 0, none⟩) 2 2) w.heap.size (by have := HSZ.out; have := HSZ2.out; omega)).trans HRB3.out)
      have hvv : y0.heap.size < y2.heap.size := Nat.lt_of_lt_of_le HYZ.out HSY.out
      have hrow := tm_row (V := (fun b => decide (w1.heap.size + 1 ≤ b ∧ b ≠ y0.heap.size))) (h := ⟨3, 0, plA ts i, 0, ⟨#[]⟩, ⟨#[]⟩, ⟨#[]⟩⟩) (ts := [r1.2, q.2]) (xs := tcells h p l d ++ tcells h2 p2 l2 d2) (decide_eq_true (by have := HSZ2.out; omega)) HROW.out (((Flat.one HTA.out).append (Flat.one HTQ.out)).reads (veil_below HBZ.out)) (hd_any (by omega) HPL.out e0_small e0_small e0_small) (by unfold maxLen; show (2 : Nat) ≤ _; omega)
      have HTY := Lib.hid (hrow.reads' (Term.veil_to (P' := (fun b => decide (w1.heap.size + 1 ≤ b ∧ b ≠ y0.heap.size))) (W' := ((((((((y3.setCell ⟨y0.heap.size, 0, none⟩ (.int .u8 3)).setCell ⟨y0.heap.size, 1, none⟩ (.int .u8 0)).setCell ⟨y0.heap.size, 2, none⟩ (.int .i64 (tel ts i).a)).setCell ⟨y0.heap.size, 3, none⟩ (.int .i64 0)).setCell ⟨y0.heap.size, 4, none⟩ (.string ⟨#[]⟩)).setCell ⟨y0.heap.size, 5, none⟩ (.string ⟨#[]⟩)).setCell ⟨y0.heap.size, 6, none⟩ (.string ⟨#[]⟩)).setCell ⟨y0.heap.size, 7, none⟩ (.slice (some ⟨y2.heap.size, 0, none⟩) 2 2))) fun b hbv hv => ⟨hv, set8_other _ _ _ _ _ _ _ _ _ _ _ (of_decide_eq_true hv).2⟩))
      have HPY := Lib.hid ((H.out.2.2.below HBZ.out).keep hb4 HOLD.out.1 HOLD.out.2)
      have HOY := Lib.hid ((H.out.2.1.trans (Off.of_below HBZ.out)).then hb4)
      have HREY : Hid (R = (wantF ts ⟨q.1.i, false⟩ wShut, node 3 (plA ts i) [r1.2, q.2])) := Lib.hid (by rw [HREQ.out, ← good_eq H.out.1])
      clear hb4 hrow HTA HTQ HTB1 HTB2 HTB3 HRB1 HRB2 HRB3
      generalize hy4 : ((((((((y3.setCell ⟨y0.heap.size, 0, none⟩ (.int .u8 3)).setCell ⟨y0.heap.size, 1, none⟩ (.int .u8 0)).setCell ⟨y0.heap.size, 2, none⟩ (.int .i64 (tel ts i).a)).setCell ⟨y0.heap.size, 3, none⟩ (.int .i64 0)).setCell ⟨y0.heap.size, 4, none⟩ (.string ⟨#[]⟩)).setCell ⟨y0.heap.size, 5, none⟩ (.string ⟨#[]⟩)).setCell ⟨y0.heap.size, 6, none⟩ (.string ⟨#[]⟩)).setCell ⟨y0.heap.size, 7, none⟩ (.slice (some ⟨y2.heap.size, 0, none⟩) 2 2)) = y4 at *
      clear hy4
      have hwd := word_walk y4 P g n c (q.1.i) ts wShut HPY.out (by simp [wordsL])
      have HWD := Lib.hid hwd
      unfold WordEnd thrown strayV at HWD
      clear hwd
      go_wp2_with (fail)
      refine HWD.out.mono ?_
      rintro e z1 (⟨hx, rfl, ho, hp⟩ | ⟨hx, rfl, ho⟩)
      · have htb := box_later HTBY.out ho (by have := HOLD.out.1; have := HSZ.out; have := HSZ2.out; omega)
        obtain ⟨⟨t0, t1, t2, t3, t4, t5, t6, t7⟩, u0, u1, u2, u3, u4, u5, u6, u7⟩ := cells8' htb
        have hrb := box_later HRBY.out ho (by have := HOLD.out.1; omega)
        obtain ⟨⟨b0, b1, b2, b3, b4, b5, b6, b7⟩, f0, f1, f2, f3, f4, f5, f6, f7⟩ := cells8' hrb
        have rl := lt_of_block hrb
        have tl := lt_of_block htb
        have HRE : Hid (R = (⟨(q.1.i) + 1, false⟩, node 3 (plA ts i) [r1.2, q.2])) := Lib.hid (by rw [HREY.out, want_ok hx])
        have H := Lib.hid (And.intro ho hp)
        clear hx ho hp htb hrb
        go_wp2_with (fail)
        refine bodyPost_ret (v := .agg #[.int .u8 3, .int .u8 0, .int .i64 (tel ts i).a, .int .i64 0, .string ⟨#[]⟩, .string ⟨#[]⟩, .string ⟨#[]⟩, .slice (some ⟨y2.heap.size, 0, none⟩) 2 2]) (by simp [results, Tryz.results168, go_sem, b0, b1, b2, b3, b4, b5, b6, b7]) rfl ?_
        have hbw := Below.set8 w z1 w.heap.size (Nat.le_refl _) (.int .u8 3) (.int .u8 0) (.int .i64 (tel ts i).a) (.int .i64 0) (.string ⟨#[]⟩) (.string ⟨#[]⟩) (.string ⟨#[]⟩) (.slice (some ⟨y2.heap.size, 0, none⟩) 2 2)
        rw [HRE.out]
        refine .inl ⟨rfl, ⟨⟨3, 0, plA ts i, 0, ⟨#[]⟩, ⟨#[]⟩, ⟨#[]⟩⟩, some ⟨y2.heap.size, 0, none⟩, 2, 2, rfl, HTY.out.reads' (Term.veil_to fun b hbv hv => ?_)⟩, (HOY.out.trans H.out.1).then hbw, H.out.2.keep hbw HOLD.out.1 HOLD.out.2⟩
        have hv := of_decide_eq_true hv
        have := HOLD.out.1
        have := HSZ.out
        have := HSZ2.out
        exact ⟨decide_eq_true (by omega), (set8_other _ _ _ _ _ _ _ _ _ _ _ (by omega)).trans (H.out.1.block b hbv (by omega))⟩
      · have H := Lib.hid (And.intro (show R.1 = ⟨q.1.i, true⟩ by rw [HREY.out, want_no hx]) (HOY.out.trans ho))
        clear hx ho
        go_wp2_with (fail)
        exact ⟨rfl, part_thrown H.out.1 H.out.2⟩
    · have HH := Lib.hid hHeld
      clear hHeld
      go_simp
      refine (HBH.out _ HDR.out).mono ?_
      rintro e y2 (⟨hbd, ⟨h2, p2, l2, d2, rfl, hT2⟩, ho4, hp4⟩ | ⟨hbd, rfl, ho4⟩)
      rotate_left
      · unfold thrown strayV
        have H := Lib.hid (And.intro (show R.1 = ⟨q.1.i, true⟩ by rw [HREQ.out]; show wantF ts q.1 wShut = _; rw [want_bad ts hbd]; exact bad_eq hbd) (HO1.out.trans ((Off.of_below HDR.out).trans ho4)))
        exact ⟨rfl, part_thrown H.out.1 H.out.2⟩
      have hX := box_later HH.out ho4 (by have := HOLD.out.1; have := HSZ.out; omega)
      have HTB2 := Lib.hid (box_later HTB1.out (P := P) (w := y1) (w' := y2) ((Off.of_below HDR.out).trans ho4) (by have := HOLD.out.1; have := HSZ.out; have := HSZ2.out; omega))
      have HRB2 := Lib.hid (box_later HRB1.out (P := P) (w := y1) (w' := y2) ((Off.of_below HDR.out).trans ho4) (by have := HOLD.out.1; omega))
      have hOY : Off P y1 y2 := (Off.of_below HDR.out).trans ho4
      have HTA := Lib.hid (HTM1.out.reads' (Term.veil_to (P' := (fun b => decide (w1.heap.size + 1 ≤ b ∧ b ≠ y0.heap.size))) (W' := y2) fun b hbv hv => ⟨hv, hOY.block b hbv (by have hv := of_decide_eq_true hv; have := HOLD.out.1; have := HSZ.out; omega)⟩))
      have HTQ := Lib.hid (hT2.reads' (Term.veil_to (P' := (fun b => decide (w1.heap.size + 1 ≤ b ∧ b ≠ y0.heap.size))) (W' := y2) fun b hbv hv => ⟨decide_eq_true (by have hv := of_decide_eq_true hv; have := HSZ2.out; have := HYZ.out; have hz : y1.drew.heap.size = y1.heap.size := rfl; omega), rfl⟩))
      have HSY := Lib.hid hOY.size
      have H := Lib.hid (And.intro hbd (And.intro (HO1.out.trans hOY) hp4))
      clear hbd hT2 ho4 hp4 hOY HH
      refine hK.out _ _ hX (fun hHeld => ?_)
      try simp only [Act.put, List.setIfInBounds_toArray, List.set_cons_zero, List.set_cons_succ]
      clear hK hX K
      refine wpAnyH_ready (rs := [1]) (by kernel_rfl) (by simp) ?_
      refine AllReadyH.cons rfl (fun K hK => ?_) AllReadyH.nil
      obtain ⟨⟨q0, q1, q2, q3, q4, q5, q6, q7⟩, e0, e1, e2, e3, e4, e5, e6, e7⟩ := cells8' HTB2.out
      have HH := Lib.hid hHeld
      clear hHeld
      go_simp
      refine hK.out _ _ HH.out (fun hHeld => ?_)
      try simp only [Act.put, List.setIfInBounds_toArray, List.set_cons_zero, List.set_cons_succ]
      clear hK K HH q0 q1 q2 q3 q4 q5 q6 q7 e0 e1 e2 e3 e4 e5 e6 e7
      refine wpAnyH_ready (rs := [6]) (by kernel_rfl) (by simp) ?_
      refine AllReadyH.cons rfl (fun K hK => ?_) AllReadyH.nil
      have HH := Lib.hid hHeld
      clear hHeld
      go_simp
      refine hK.out _ _ ((Below.heap_alloc y2 (.cells #[.int .u8 h.k, .int .u8 h.op, .int .i64 h.pl, .int .i64 h.n, .string h.name, .string h.arg, .string h.exn, .slice p l d, .int .u8 h2.k, .int .u8 h2.op, .int .i64 h2.pl, .int .i64 h2.n, .string h2.name, .string h2.arg, .string h2.exn, .slice p2 l2 d2] 29) _ (lt_of_block HH.out)).trans HH.out) (fun hHeld => ?_)
      try simp only [Act.put, List.setIfInBounds_toArray, List.set_cons_zero, List.set_cons_succ]
      clear hK K HH
      refine wpAnyH_ready (rs := [7]) (by kernel_rfl) (by simp) ?_
      refine AllReadyH.cons rfl (fun K hK => ?_) AllReadyH.nil
      have HH := Lib.hid hHeld
      clear hHeld
      go_simp
      refine (node_walk _ 3 0 (tel ts i).a 0 ⟨#[]⟩ ⟨#[]⟩ ⟨#[]⟩ (some ⟨y2.heap.size, 0, none⟩) 2 2).mono ?_
      rintro e y3 ⟨rfl, hbz⟩
      obtain ⟨hrow, hbz2⟩ := one_box hbz
      have hX := (hbz.block _ (lt_of_block HH.out)).trans HH.out
      have HROW := Lib.hid hrow; have HBZ := Lib.hid hbz2
      have HTB3 := Lib.hid ((hbz2.block _ (lt_of_block HTB2.out)).trans HTB2.out)
      have HRB3 := Lib.hid ((hbz2.block _ (lt_of_block HRB2.out)).trans HRB2.out)
      clear hrow hbz hbz2 HH
      refine hK.out _ _ hX (fun hHeld => ?_)
      try simp only [Act.put, List.setIfInBounds_toArray, List.set_cons_zero, List.set_cons_succ]
      clear hK hX K
      refine wpAnyH_ready (rs := [8]) (by kernel_rfl) (by simp) ?_
      refine AllReadyH.cons rfl (fun K hK => ?_) AllReadyH.nil
      have HH := Lib.hid hHeld
      clear hHeld
      obtain ⟨⟨t0, t1, t2, t3, t4, t5, t6, t7⟩, u0, u1, u2, u3, u4, u5, u6, u7⟩ := cells8' HTB3.out
      have tl := lt_of_block HTB3.out
      go_simp
      refine hK.out _ _ ((set8_other _ _ _ _ _ _ _ _ _ _ _ (by have := HSZ2.out; omega)).trans HH.out) (fun hHeld => ?_)
      refine wpAnyH_done (by kernel_rfl) ?_ _
      clear hK K hHeld HH t0 t1 t2 t3 t4 t5 t6 t7 u0 u1 u2 u3 u4 u5 u6 u7 tl
      have hb4 := Below.set8 w y3 y0.heap.size (by have := HSZ.out; have := HSZ2.out; omega) (.int .u8 3) (.int .u8 0) (.int .i64 (tel ts i).a) (.int .i64 0) (.string ⟨#[]⟩) (.string ⟨#[]⟩) (.string ⟨#[]⟩) (.slice (some ⟨y2.heap.size, 0, none⟩) 2 2)
      have HTBY := Lib.hid (set8_block (a := .int .u8 3) (b := .int .u8 0) (c := .int .i64 (tel ts i).a) (d := .int .i64 0) (e := .string ⟨#[]⟩) (f := .string ⟨#[]⟩) (g := .string ⟨#[]⟩) (h := .slice (some ⟨y2.heap.size, 0, none⟩) 2 2) HTB3.out)
      have HRBY := Lib.hid ((set8_other y3 y0.heap.size (.int .u8 3) (.int .u8 0) (.int .i64 (tel ts i).a) (.int .i64 0) (.string ⟨#[]⟩) (.string ⟨#[]⟩) (.string ⟨#[]⟩) (.slice (some ⟨y2.heap.size, 0, none⟩) 2 2) w.heap.size (by have := HSZ.out; have := HSZ2.out; omega)).trans HRB3.out)
      have hvv : y0.heap.size < y2.heap.size := Nat.lt_of_lt_of_le HYZ.out HSY.out
      have hrow := tm_row (V := (fun b => decide (w1.heap.size + 1 ≤ b ∧ b ≠ y0.heap.size))) (h := ⟨3, 0, plA ts i, 0, ⟨#[]⟩, ⟨#[]⟩, ⟨#[]⟩⟩) (ts := [r1.2, q.2]) (xs := tcells h p l d ++ tcells h2 p2 l2 d2) (decide_eq_true (by have := HSZ2.out; omega)) HROW.out (((Flat.one HTA.out).append (Flat.one HTQ.out)).reads (veil_below HBZ.out)) (hd_any (by omega) HPL.out e0_small e0_small e0_small) (by unfold maxLen; show (2 : Nat) ≤ _; omega)
      have HTY := Lib.hid (hrow.reads' (Term.veil_to (P' := (fun b => decide (w1.heap.size + 1 ≤ b ∧ b ≠ y0.heap.size))) (W' := ((((((((y3.setCell ⟨y0.heap.size, 0, none⟩ (.int .u8 3)).setCell ⟨y0.heap.size, 1, none⟩ (.int .u8 0)).setCell ⟨y0.heap.size, 2, none⟩ (.int .i64 (tel ts i).a)).setCell ⟨y0.heap.size, 3, none⟩ (.int .i64 0)).setCell ⟨y0.heap.size, 4, none⟩ (.string ⟨#[]⟩)).setCell ⟨y0.heap.size, 5, none⟩ (.string ⟨#[]⟩)).setCell ⟨y0.heap.size, 6, none⟩ (.string ⟨#[]⟩)).setCell ⟨y0.heap.size, 7, none⟩ (.slice (some ⟨y2.heap.size, 0, none⟩) 2 2))) fun b hbv hv => ⟨hv, set8_other _ _ _ _ _ _ _ _ _ _ _ (of_decide_eq_true hv).2⟩))
      have HPY := Lib.hid ((H.out.2.2.below HBZ.out).keep hb4 HOLD.out.1 HOLD.out.2)
      have HOY := Lib.hid ((H.out.2.1.trans (Off.of_below HBZ.out)).then hb4)
      have HREY : Hid (R = (wantF ts ⟨q.1.i, false⟩ wShut, node 3 (plA ts i) [r1.2, q.2])) := Lib.hid (by rw [HREQ.out, ← good_eq H.out.1])
      clear hb4 hrow HTA HTQ HTB1 HTB2 HTB3 HRB1 HRB2 HRB3
      generalize hy4 : ((((((((y3.setCell ⟨y0.heap.size, 0, none⟩ (.int .u8 3)).setCell ⟨y0.heap.size, 1, none⟩ (.int .u8 0)).setCell ⟨y0.heap.size, 2, none⟩ (.int .i64 (tel ts i).a)).setCell ⟨y0.heap.size, 3, none⟩ (.int .i64 0)).setCell ⟨y0.heap.size, 4, none⟩ (.string ⟨#[]⟩)).setCell ⟨y0.heap.size, 5, none⟩ (.string ⟨#[]⟩)).setCell ⟨y0.heap.size, 6, none⟩ (.string ⟨#[]⟩)).setCell ⟨y0.heap.size, 7, none⟩ (.slice (some ⟨y2.heap.size, 0, none⟩) 2 2)) = y4 at *
      clear hy4
      have hwd := word_walk y4 P g n c (q.1.i) ts wShut HPY.out (by simp [wordsL])
      have HWD := Lib.hid hwd
      unfold WordEnd thrown strayV at HWD
      clear hwd
      go_wp2_with (fail)
      refine HWD.out.mono ?_
      rintro e z1 (⟨hx, rfl, ho, hp⟩ | ⟨hx, rfl, ho⟩)
      · have htb := box_later HTBY.out ho (by have := HOLD.out.1; have := HSZ.out; have := HSZ2.out; omega)
        obtain ⟨⟨t0, t1, t2, t3, t4, t5, t6, t7⟩, u0, u1, u2, u3, u4, u5, u6, u7⟩ := cells8' htb
        have hrb := box_later HRBY.out ho (by have := HOLD.out.1; omega)
        obtain ⟨⟨b0, b1, b2, b3, b4, b5, b6, b7⟩, f0, f1, f2, f3, f4, f5, f6, f7⟩ := cells8' hrb
        have rl := lt_of_block hrb
        have tl := lt_of_block htb
        have HRE : Hid (R = (⟨(q.1.i) + 1, false⟩, node 3 (plA ts i) [r1.2, q.2])) := Lib.hid (by rw [HREY.out, want_ok hx])
        have H := Lib.hid (And.intro ho hp)
        clear hx ho hp htb hrb
        go_wp2_with (fail)
        refine bodyPost_ret (v := .agg #[.int .u8 3, .int .u8 0, .int .i64 (tel ts i).a, .int .i64 0, .string ⟨#[]⟩, .string ⟨#[]⟩, .string ⟨#[]⟩, .slice (some ⟨y2.heap.size, 0, none⟩) 2 2]) (by simp [results, Tryz.results168, go_sem, b0, b1, b2, b3, b4, b5, b6, b7]) rfl ?_
        have hbw := Below.set8 w z1 w.heap.size (Nat.le_refl _) (.int .u8 3) (.int .u8 0) (.int .i64 (tel ts i).a) (.int .i64 0) (.string ⟨#[]⟩) (.string ⟨#[]⟩) (.string ⟨#[]⟩) (.slice (some ⟨y2.heap.size, 0, none⟩) 2 2)
        rw [HRE.out]
        refine .inl ⟨rfl, ⟨⟨3, 0, plA ts i, 0, ⟨#[]⟩, ⟨#[]⟩, ⟨#[]⟩⟩, some ⟨y2.heap.size, 0, none⟩, 2, 2, rfl, HTY.out.reads' (Term.veil_to fun b hbv hv => ?_)⟩, (HOY.out.trans H.out.1).then hbw, H.out.2.keep hbw HOLD.out.1 HOLD.out.2⟩
        have hv := of_decide_eq_true hv
        have := HOLD.out.1
        have := HSZ.out
        have := HSZ2.out
        exact ⟨decide_eq_true (by omega), (set8_other _ _ _ _ _ _ _ _ _ _ _ (by omega)).trans (H.out.1.block b hbv (by omega))⟩
      · have H := Lib.hid (And.intro (show R.1 = ⟨q.1.i, true⟩ by rw [HREY.out, want_no hx]) (HOY.out.trans ho))
        clear hx ho
        go_wp2_with (fail)
        exact ⟨rfl, part_thrown H.out.1 H.out.2⟩
end Parse
end Go.Proofs.YtadpjkehflokcaaGreatDoor
namespace Go.Proofs.YtadpjkehflokcaaGreatDoor
open Go.RowKit
set_option linter.unusedVariables false
set_option linter.unusedSimpArgs false
namespace Parse
open Token (Tok tel ToksAt)
open Term (Tm Hd TmIs Kids ret_bool ret_i64 Reads veil Flat tcells)
open Words (str_no str_yes NumLaid)
open Chars (isin BytesAt)
set_option maxRecDepth 10000 in
set_option maxHeartbeats 25600000 in
theorem handler_walk (m : Nat) (hE : ∀ m', m' ≤ m → PE 26 exprF m') (w : World) (P g n c i : Nat) (ts : List Tok) (q1 q2 : St × List Tm) (h : PR w P g n c i ts) (hL : Lay w P) (ht : textOf ts i = wTry) (hq1 : partsF ts m [e0] ⟨i + 1, false⟩ = some q1)
    (hq2 : partsF ts m [wArrow] (getF ts (getF ts (wantF ts q1.1 wWith) 3) 2) = some q2) :
    Calls Tryz.prog 56 #[.pointer (some ⟨P, 0, none⟩)] w (PartEnd P g n c ts (q2.1, .node ⟨16, 0, plA ts i, 0, ⟨#[]⟩, getS ts (getF ts (wantF ts q1.1 wWith) 3) 2, getS ts (wantF ts q1.1 wWith) 3⟩ (q1.2 ++ q2.2)) w) := by
  obtain ⟨m0, r0, hm0, hr0, rfl⟩ := parts0 ts hq1
  obtain ⟨m1, r1, hm1, hr1, rfl⟩ := parts1 ts ne_e0.2.2.1 hq2
  have hne := text_not_end (x := wTry) (by simp [wordsL]) ht
  have hbox : ∀ O : Obj, Below w.heap.size w (w.alloc O) := fun O => ((Below.refl _ _).alloc (Nat.le_refl _) O)
  have hhd := fun O => head_walk (w.alloc O) P g n c i ts 16 (h.below (hbox O)) hne
  have hold := h.old
  have hpl := h.pl
  have htx := h.row.texts
  have HHD := Lib.hid hhd; have HOLD := Lib.hid hold; have HL := Lib.hid hL; have HE := Lib.hid hE; have HPL := Lib.hid hpl; have HTX := Lib.hid htx; have HQ0 := Lib.hid hr0; have HQ1 := Lib.hid hr1
  unfold headV at HHD
  clear hhd h hbox hold hL hE hpl htx hne ht hq1 hq2 hr0 hr1
  go_enter Tryz.func56, Tryz.ntmps56
  go_wp2_with (fail)
  refine (HHD.out _).mono ?_
  rintro e w1 ⟨rfl, ho, hp⟩
  obtain ⟨h3, h4⟩ := box_off ho HOLD.out.1
  have HR := Lib.hid h3; have HO := Lib.hid h4; have HP := Lib.hid hp; have HSZ := Lib.hid (lt_of_block h3)
  clear ho hp h3 h4
  have hbx1 : ∀ O : Obj, Below w1.heap.size w1 (w1.alloc O) := fun O => (Below.refl _ _).alloc (Nat.le_refl _) O
  have hpt := fun O => HE.out m0 hm0 (w1.alloc O) P g n c (i + 1) ts r0 (HP.out.below (hbx1 O)) (HL.out.off (HO.out.trans (Off.of_below (hbx1 O)))) HQ0.out
  have HPT := Lib.hid hpt
  clear hpt hbx1
  go_wp2_with (fail)
  refine (HPT.out _).mono ?_
  rintro e y0 (⟨hbd, ⟨h0, p0, l0, d0, rfl, hT⟩, ho, hp⟩ | ⟨hbd, rfl, ho⟩)
  rotate_left
  · unfold thrown strayV
    have hq := HQ1.out
    rw [want_bad ts hbd, get_bad ts hbd, get_bad ts hbd] at hq
    have H := Lib.hid (And.intro ((then_bad ts hbd hq).trans (bad_eq hbd)) (HO.out.trans (box_off ho (Nat.lt_of_lt_of_le HOLD.out.1 HO.out.size)).2))
    clear hbd ho hq
    go_wp2_with (fail)
    exact ⟨rfl, part_thrown H.out.1 H.out.2⟩
  obtain ⟨h3, h4⟩ := box_off ho (Nat.lt_of_lt_of_le HOLD.out.1 HO.out.size)
  have HHX := Lib.hid h3; have HO0 := Lib.hid (HO.out.trans h4); have HT := Lib.hid hT; have HBD := Lib.hid hbd; have HSZ2 := Lib.hid (lt_of_block h3)
  have HR0 := Lib.hid (box_later HR.out h4 (by have := HOLD.out.1; omega))
  have hbx2 : ∀ O : Obj, Below y0.heap.size y0 (y0.alloc O) := fun O => (Below.refl _ _).alloc (Nat.le_refl _) O
  have hwd := fun O => word_walk (y0.alloc O) P g n c r0.1.i ts wWith (hp.below (hbx2 O)) (by simp [wordsL])
  have HWD := Lib.hid hwd
  unfold WordEnd thrown strayV at HWD
  clear hbd hT ho hp h3 h4 hwd hbx2
  go_wp2_with (fail)
  refine (HWD.out _).mono ?_
  rintro e y1 (⟨hx, rfl, ho, hp⟩ | ⟨hx, rfl, ho⟩)
  rotate_left
  · have hq := HQ1.out
    rw [good_eq HBD.out, want_no hx, get_bad ts rfl, get_bad ts rfl] at hq
    have H := Lib.hid (And.intro (then_bad ts rfl hq) (HO0.out.trans (box_off ho (Nat.lt_of_lt_of_le HOLD.out.1 HO0.out.size)).2))
    clear hx ho hq
    go_wp2_with (fail)
    exact ⟨rfl, part_thrown H.out.1 H.out.2⟩
  obtain ⟨h3, h4⟩ := box_off ho (Nat.lt_of_lt_of_le HOLD.out.1 HO0.out.size)
  have HTB1 := Lib.hid h3; have HO1 := Lib.hid (HO0.out.trans h4); have HX := Lib.hid hx; have HYZ := Lib.hid (lt_of_block h3)
  have HR1 := Lib.hid (box_later HR0.out h4 (by have := HOLD.out.1; omega)); have HHX1 := Lib.hid (box_later HHX.out h4 (by have := HOLD.out.1; have := HSZ.out; omega))
  have HTM1 := Lib.hid (HT.out.reads' (Term.veil_to (P' := (fun b => decide (w1.heap.size + 1 ≤ b ∧ b ≠ y0.heap.size))) (W' := y1) fun b hbv hv => by
    have hv := of_decide_eq_true hv
    have hs : w1.heap.size + 1 ≤ b := by simpa using hv
    have := HOLD.out.1; have := HSZ.out
    exact ⟨decide_eq_true ⟨hs, by omega⟩, h4.block b hbv (by omega)⟩))
  have hen := exn_walk y1 P g n c (r0.1.i + 1) ts hp
  have HEN := Lib.hid hen
  unfold NameEnd thrown strayV at HEN
  clear hx ho hp h3 h4 hen HT HWD HHX HR0
  go_wp2_with (fail)
  refine HEN.out.mono ?_
  rintro e y2 (⟨hk, rfl, ho, hp⟩ | ⟨hk, rfl, ho⟩)
  rotate_left
  · have hq := HQ1.out
    rw [good_eq HBD.out, want_ok HX.out, get_no ts hk, get_bad ts rfl] at hq
    have H := Lib.hid (And.intro (then_bad ts rfl hq) (HO1.out.trans ho))
    clear hk ho hq
    go_wp2_with (fail)
    exact ⟨rfl, part_thrown H.out.1 H.out.2⟩
  have hh2 := box_later HHX1.out ho (by have := HOLD.out.1; have := HSZ.out; omega)
  obtain ⟨⟨q0, q1, q2, q3, q4, q5, q6⟩, e0, e1, e2, e3, e4, e5, e6⟩ := cells7' hh2
  have ql := lt_of_block hh2
  have hb3 : Below w1.heap.size y2 (y2.setCell ⟨w1.heap.size, 6, none⟩ (.string (tel ts (r0.1.i + 1)).s)) := set_new _ _ _ _
  have HHX2 := Lib.hid (show (y2.setCell ⟨w1.heap.size, 6, none⟩ (.string (tel ts (r0.1.i + 1)).s)).heap[w1.heap.size]? = some (.cells #[.int .u8 16, .int .u8 0, .int .i64 (tel ts i).a, .int .i64 0, .string ⟨#[]⟩, .string ⟨#[]⟩, .string (tel ts (r0.1.i + 1)).s] 26 (0, 0)) from set_block hh2)
  have HR2 := Lib.hid ((hb3.block _ HSZ.out).trans (box_later HR1.out ho (by have := HOLD.out.1; omega)))
  have hne6 : y0.heap.size ≠ w1.heap.size := by have := HSZ2.out; omega
  have HTB2 := Lib.hid ((Below.heap_setCell y2 ⟨w1.heap.size, 6, none⟩ (.string (tel ts (r0.1.i + 1)).s) _ hne6).trans (box_later HTB1.out ho (by have := HOLD.out.1; have := HSZ.out; have := HSZ2.out; omega)))
  have HO2 := Lib.hid ((HO1.out.trans ho).then (hb3.mono HO.out.size)); have HP2 := Lib.hid (hp.keep hb3 (Nat.lt_of_lt_of_le HOLD.out.1 HO.out.size) (Nat.lt_of_lt_of_le HOLD.out.2 HO.out.size))
  have HTM2 := Lib.hid (HTM1.out.reads' (Term.veil_to (P' := (fun b => decide (w1.heap.size + 1 ≤ b ∧ b ≠ y0.heap.size))) (W' := y2.setCell ⟨w1.heap.size, 6, none⟩ (.string (tel ts (r0.1.i + 1)).s)) fun b hbv hv => by
    have hv' := of_decide_eq_true hv
    have := HOLD.out.1; have := HSZ.out
    exact ⟨hv, (Below.heap_setCell _ _ _ _ (by show b ≠ w1.heap.size; omega)).trans (ho.block b hbv (by omega))⟩))
  have HK1 := Lib.hid hk
  have HLT1 := Lib.hid (show r0.1.i + 1 < n from by have := hp.lt; omega)
  clear hk ho hp hh2 hb3 HR1 HTB1 HTM1 HHX1
  go_wp2_with (fail)
  generalize hg : y2.setCell ⟨w1.heap.size, 6, none⟩ (.string (tel ts (r0.1.i + 1)).s) = u2 at *
  clear hg q0 q1 q2 q3 q4 q5 q6 e0 e1 e2 e3 e4 e5 e6 ql
  have hnm := name_walk u2 P g n c (r0.1.i + 1 + 1) ts HP2.out
  have HNM := Lib.hid hnm
  unfold NameEnd thrown strayV at HNM
  clear hnm HEN
  refine HNM.out.mono ?_
  rintro e y3 (⟨hk, rfl, ho, hp⟩ | ⟨hk, rfl, ho⟩)
  rotate_left
  · have hq := HQ1.out
    rw [good_eq HBD.out, want_ok HX.out, (get_ok ts HK1.out).1, get_no ts hk] at hq
    have H := Lib.hid (And.intro (then_bad ts rfl hq) (HO2.out.trans ho))
    clear hk ho hq
    go_wp2_with (fail)
    exact ⟨rfl, part_thrown H.out.1 H.out.2⟩
  have hh2 := box_later HHX2.out ho (by have := HOLD.out.1; have := HSZ.out; omega)
  obtain ⟨⟨q0, q1, q2, q3, q4, q5, q6⟩, e0, e1, e2, e3, e4, e5, e6⟩ := cells7' hh2
  have ql := lt_of_block hh2
  have hb3 : Below w1.heap.size y3 (y3.setCell ⟨w1.heap.size, 5, none⟩ (.string (tel ts (r0.1.i + 1 + 1)).s)) := set_new _ _ _ _
  have HHX3 := Lib.hid (show (y3.setCell ⟨w1.heap.size, 5, none⟩ (.string (tel ts (r0.1.i + 1 + 1)).s)).heap[w1.heap.size]? = some (.cells #[.int .u8 16, .int .u8 0, .int .i64 (tel ts i).a, .int .i64 0, .string ⟨#[]⟩, .string (tel ts (r0.1.i + 1 + 1)).s, .string (tel ts (r0.1.i + 1)).s] 26 (0, 0)) from set_block hh2)
  have HR3 := Lib.hid ((hb3.block _ HSZ.out).trans (box_later HR2.out ho (by have := HOLD.out.1; omega)))
  have HTB3 := Lib.hid ((Below.heap_setCell y3 ⟨w1.heap.size, 5, none⟩ (.string (tel ts (r0.1.i + 1 + 1)).s) _ hne6).trans (box_later HTB2.out ho (by have := HOLD.out.1; have := HSZ.out; have := HSZ2.out; omega)))
  have HO3 := Lib.hid ((HO2.out.trans ho).then (hb3.mono HO.out.size)); have HP3 := Lib.hid (hp.keep hb3 (Nat.lt_of_lt_of_le HOLD.out.1 HO.out.size) (Nat.lt_of_lt_of_le HOLD.out.2 HO.out.size))
  have HTM3 := Lib.hid (HTM2.out.reads' (Term.veil_to (P' := (fun b => decide (w1.heap.size + 1 ≤ b ∧ b ≠ y0.heap.size))) (W' := y3.setCell ⟨w1.heap.size, 5, none⟩ (.string (tel ts (r0.1.i + 1 + 1)).s)) fun b hbv hv => by
    have hv' := of_decide_eq_true hv
    have := HOLD.out.1; have := HSZ.out
    exact ⟨hv, (Below.heap_setCell _ _ _ _ (by show b ≠ w1.heap.size; omega)).trans (ho.block b hbv (by omega))⟩))
  have HK2 := Lib.hid hk
  have HLT2 := Lib.hid (show r0.1.i + 1 + 1 < n from by have := hp.lt; omega)
  clear hk ho hp hh2 hb3 HR2 HTB2 HTM2 HHX2
  go_wp2_with (fail)
  generalize hg : y3.setCell ⟨w1.heap.size, 5, none⟩ (.string (tel ts (r0.1.i + 1 + 1)).s) = u3 at *
  clear hg q0 q1 q2 q3 q4 q5 q6 e0 e1 e2 e3 e4 e5 e6 ql
  have hq := HQ1.out
  rw [good_eq HBD.out, want_ok HX.out, (get_ok ts HK1.out).1, (get_ok ts HK2.out).1] at hq
  have hU : Below u3.heap.size u3 u3.drew := (Below.refl _ _).drew
  have hbh := behind_walk m1 (HE.out m1 hm1) u3.drew P g n c (r0.1.i + 1 + 1 + 1) ts wArrow r1 (HP3.out.below hU) (HL.out.off (HO3.out.trans (Off.of_below hU))) (by simp [wordsL]) hq
  have HBH := Lib.hid hbh; have HOU := Lib.hid (HO3.out.trans (Off.of_below hU))
  have HYU := Lib.hid (lt_of_block HTB3.out)
  clear hq hU hbh
  refine wp_region_held_drew (S := fun W => W.heap[w1.heap.size]? = some (.cells #[.int .u8 16, .int .u8 0, .int .i64 (tel ts i).a, .int .i64 0, .string ⟨#[]⟩, .string (tel ts (r0.1.i + 1 + 1)).s, .string (tel ts (r0.1.i + 1)).s] 26 (0, 0)) ∧ W.heap[y0.heap.size]? = some (.cells #[.int .u8 h0.k, .int .u8 h0.op, .int .i64 h0.pl, .int .i64 h0.n, .string h0.name, .string h0.arg, .string h0.exn, .slice p0 l0 d0] 29 (0, 0))) (by kernel_rfl) ⟨HHX3.out, HTB3.out⟩ (fun hHeld => ?_)
  refine wpAnyH_take (i := 0) (v := .agg #[.int .u8 16, .int .u8 0, .int .i64 (tel ts i).a, .int .i64 0, .string ⟨#[]⟩, .string (tel ts (r0.1.i + 1 + 1)).s, .string (tel ts (r0.1.i + 1)).s]) rfl (by kernel_rfl) (by kernel_rfl) (by kernel_rfl) (fun _ _ _ h => h) (Or.inl ⟨by rfl, ?_⟩) (by assumption) ?_
  · intro w' hSw
    obtain ⟨⟨q0, q1, q2, q3, q4, q5, q6⟩, e0, e1, e2, e3, e4, e5, e6⟩ := cells7' hSw.1
    go_simp
  try simp only [Act.put, List.setIfInBounds_toArray, List.set_cons_zero, List.set_cons_succ]
  refine wpAnyH_take (i := 1) (v := .agg #[.int .u8 h0.k, .int .u8 h0.op, .int .i64 h0.pl, .int .i64 h0.n, .string h0.name, .string h0.arg, .string h0.exn, .slice p0 l0 d0]) rfl (by kernel_rfl) (by kernel_rfl) (by kernel_rfl) (fun _ _ _ h => h) (Or.inl ⟨by rfl, ?_⟩) (by assumption) ?_
  · intro w' hSw
    obtain ⟨⟨q0, q1, q2, q3, q4, q5, q6, q7⟩, e0, e1, e2, e3, e4, e5, e6, e7⟩ := cells8' hSw.2
    go_simp
  try simp only [Act.put, List.setIfInBounds_toArray, List.set_cons_zero, List.set_cons_succ]
  refine wpAnyH_take (i := 2) (v := .pointer (some ⟨P, 0, none⟩)) rfl (by kernel_rfl) (by kernel_rfl) (by kernel_rfl) (fun _ _ _ h => h) (Or.inl ⟨by rfl, ?_⟩) (by assumption) ?_
  · intro w' hSw
    go_simp
  try simp only [Act.put, List.setIfInBounds_toArray, List.set_cons_zero, List.set_cons_succ]
  refine wpAnyH_take (i := 3) (v := .pointer (some ⟨P, 0, none⟩)) rfl (by kernel_rfl) (by kernel_rfl) (by kernel_rfl) (fun _ _ _ h => h) (Or.inl ⟨by rfl, ?_⟩) (by assumption) ?_
  · intro w' hSw
    go_simp
  try simp only [Act.put, List.setIfInBounds_toArray, List.set_cons_zero, List.set_cons_succ]
  refine wpAnyH_take (i := 4) (v := .func (.func 26) #[.pointer (some ⟨P, 0, none⟩)] #[]) rfl (by kernel_rfl) (by kernel_rfl) (by kernel_rfl) (fun _ _ _ h => h) (Or.inl ⟨by rfl, ?_⟩) (by assumption) ?_
  · intro w' hSw
    first | go_simp | rfl
  try simp only [Act.put, List.setIfInBounds_toArray, List.set_cons_zero, List.set_cons_succ]
  refine wpAnyH_ready (rs := [5]) (by kernel_rfl) (by simp) ?_
  refine AllReadyH.cons rfl (fun K hK => ?_) AllReadyH.nil
  have HH := Lib.hid hHeld
  clear hHeld
  go_simp
  refine HBH.out.mono ?_
  rintro e y4 (⟨hbd, ⟨h1, p1, l1, d1, rfl, hT2⟩, ho4, hp4⟩ | ⟨hbd, rfl, ho4⟩)
  rotate_left
  · unfold thrown strayV
    exact ⟨rfl, part_thrown (bad_eq hbd) (HOU.out.trans ho4)⟩
  have hX1 := box_later HH.out.1 ho4 (by have := HOLD.out.1; have := HSZ.out; omega)
  have hX2 := box_later HH.out.2 ho4 (by have := HOLD.out.1; have := HSZ.out; have := HSZ2.out; omega)
  have HR4 := Lib.hid (box_later HR3.out (P := P) (w := u3) (w' := y4) ⟨ho4.os, ho4.tape, ho4.output, ho4.size, ho4.block⟩ (by have := HOLD.out.1; omega))
  have HTA := Lib.hid (HTM3.out.reads' (Term.veil_to (P' := (fun b => decide (w.heap.size + 1 ≤ b))) (W' := y4) fun b hbv hv => ⟨decide_eq_true (by have hv := of_decide_eq_true hv; have := HSZ.out; omega), ho4.block b hbv (by have hv := of_decide_eq_true hv; have := HOLD.out.1; have := HSZ.out; omega)⟩))
  have HTQ := Lib.hid (hT2.reads' (Term.veil_to (P' := (fun b => decide (w.heap.size + 1 ≤ b))) (W' := y4) fun b hbv hv => ⟨decide_eq_true (by have hv := of_decide_eq_true hv; have := HSZ.out; have := HSZ2.out; have := HYU.out; have hz : u3.drew.heap.size = u3.heap.size := rfl; omega), rfl⟩))
  have hys : w.heap.size < y4.heap.size := Nat.lt_of_lt_of_le (by have := HSZ.out; have := HSZ2.out; have := HYU.out; have hz : u3.drew.heap.size = u3.heap.size := rfl; omega) ho4.size
  have HYS := Lib.hid hys
  have H := Lib.hid (And.intro hbd (And.intro (HOU.out.trans ho4) hp4))
  clear hbd hT2 ho4 hp4 HH hys
  refine hK.out _ _ ⟨hX1, hX2⟩ (fun hHeld => ?_)
  try simp only [Act.put, List.setIfInBounds_toArray, List.set_cons_zero, List.set_cons_succ]
  clear hK hX1 hX2 K
  refine wpAnyH_ready (rs := [6]) (by kernel_rfl) (by simp) ?_
  refine AllReadyH.cons rfl (fun K hK => ?_) AllReadyH.nil
  have HH := Lib.hid hHeld
  clear hHeld
  go_simp
  refine hK.out _ _ ⟨(Below.heap_alloc y4 (.cells #[.int .u8 h0.k, .int .u8 h0.op, .int .i64 h0.pl, .int .i64 h0.n, .string h0.name, .string h0.arg, .string h0.exn, .slice p0 l0 d0, .int .u8 h1.k, .int .u8 h1.op, .int .i64 h1.pl, .int .i64 h1.n, .string h1.name, .string h1.arg, .string h1.exn, .slice p1 l1 d1] 29) _ (lt_of_block HH.out.1)).trans HH.out.1, (Below.heap_alloc y4 (.cells #[.int .u8 h0.k, .int .u8 h0.op, .int .i64 h0.pl, .int .i64 h0.n, .string h0.name, .string h0.arg, .string h0.exn, .slice p0 l0 d0, .int .u8 h1.k, .int .u8 h1.op, .int .i64 h1.pl, .int .i64 h1.n, .string h1.name, .string h1.arg, .string h1.exn, .slice p1 l1 d1] 29) _ (lt_of_block HH.out.2)).trans HH.out.2⟩ (fun hHeld => ?_)
  try simp only [Act.put, List.setIfInBounds_toArray, List.set_cons_zero, List.set_cons_succ]
  clear hK K HH
  refine wpAnyH_ready (rs := [7]) (by kernel_rfl) (by simp) ?_
  refine AllReadyH.cons rfl (fun K hK => ?_) AllReadyH.nil
  have HH := Lib.hid hHeld
  clear hHeld
  go_simp
  refine (node_walk _ 16 0 (tel ts i).a 0 ⟨#[]⟩ (tel ts (r0.1.i + 1 + 1)).s (tel ts (r0.1.i + 1)).s (some ⟨y4.heap.size, 0, none⟩) 2 2).mono ?_
  rintro e y5 ⟨rfl, hbz⟩
  obtain ⟨hrow, hbz2⟩ := one_box hbz
  have hX1 := (hbz.block _ (lt_of_block HH.out.1)).trans HH.out.1
  have hX2 := (hbz.block _ (lt_of_block HH.out.2)).trans HH.out.2
  have HROW := Lib.hid hrow; have HBZ := Lib.hid hbz2
  have HR5 := Lib.hid ((hbz2.block _ (lt_of_block HR4.out)).trans HR4.out)
  clear hrow hbz hbz2 HH
  refine hK.out _ _ ⟨hX1, hX2⟩ (fun hHeld => ?_)
  try simp only [Act.put, List.setIfInBounds_toArray, List.set_cons_zero, List.set_cons_succ]
  clear hK hX1 hX2 K
  refine wpAnyH_ready (rs := [8]) (by kernel_rfl) (by simp) ?_
  refine AllReadyH.cons rfl (fun K hK => ?_) AllReadyH.nil
  have HH := Lib.hid hHeld
  clear hHeld
  obtain ⟨⟨b0, b1, b2, b3, b4, b5, b6, b7⟩, f0, f1, f2, f3, f4, f5, f6, f7⟩ := cells8' HR5.out
  have rl := lt_of_block HR5.out
  go_simp
  refine hK.out _ _ ⟨(set8_other _ _ _ _ _ _ _ _ _ _ _ (by have := HSZ.out; omega)).trans HH.out.1, (set8_other _ _ _ _ _ _ _ _ _ _ _ (by have := HSZ.out; have := HSZ2.out; omega)).trans HH.out.2⟩ (fun hHeld => ?_)
  refine wpAnyH_done (by kernel_rfl) ?_ _
  clear hK K hHeld HH
  go_wp2_with (fail)
  refine bodyPost_ret (v := .agg #[.int .u8 16, .int .u8 0, .int .i64 (tel ts i).a, .int .i64 0, .string ⟨#[]⟩, .string (tel ts (r0.1.i + 1 + 1)).s, .string (tel ts (r0.1.i + 1)).s, .slice (some ⟨y4.heap.size, 0, none⟩) 2 2]) (by simp [results, Tryz.results56, go_sem, b0, b1, b2, b3, b4, b5, b6, b7]) rfl ?_
  have hgs : getS ts (getF ts (wantF ts r0.1 wWith) 3) 2 = (tel ts (r0.1.i + 1 + 1)).s ∧ getS ts (wantF ts r0.1 wWith) 3 = (tel ts (r0.1.i + 1)).s := by
    rw [good_eq HBD.out, want_ok HX.out, (get_ok ts HK1.out).1, (get_ok ts HK1.out).2, (get_ok ts HK2.out).2]
    exact ⟨rfl, rfl⟩
  refine node_end (xs := tcells h0 p0 l0 d0 ++ tcells h1 p1 l1 d1) (kids := [r0.2, r1.2]) H.out.1 (by show Tm.node _ _ = _; rw [hgs.1, hgs.2]; rfl) HROW.out HYS.out (((Flat.one HTA.out).append (Flat.one HTQ.out)).reads (veil_below HBZ.out)) rfl (by unfold maxLen; omega) (hd_any (by omega) HPL.out e0_small (HTX.out _ HLT2.out) (HTX.out _ HLT1.out)) (H.out.2.1.trans (Off.of_below HBZ.out)) (H.out.2.2.below HBZ.out) HOLD.out (fun k hk => set8_other _ _ _ _ _ _ _ _ _ _ _ hk) (Below.set8 w _ _ (Nat.le_refl _) _ _ _ _ _ _ _ _)
end Parse
end Go.Proofs.YtadpjkehflokcaaGreatDoor
namespace Go.Proofs.YtadpjkehflokcaaGreatDoor
open Go.RowKit
set_option linter.unusedVariables false
set_option linter.unusedSimpArgs false
namespace Parse
open Token (Tok tel ToksAt)
open Term (Tm Hd TmIs Kids ret_bool ret_i64 Reads veil Flat tcells)
open Words (str_no str_yes NumLaid)
open Chars (isin BytesAt)
theorem call_rel (args : Array Value) (w : World) : (callFunc 92 args).run Tryz.prog w = .ok (.enter 92 args) w := by simp [go_sem, Tryz.func92]
set_option maxRecDepth 10000 in
set_option maxHeartbeats 6400000 in
theorem set_walk (m : Nat) (hE : ∀ m', m' ≤ m → PE 92 (fun ts m s => levelF ts m (0 + 1) s) m') : PE 57 (fun ts m s => levelF ts m 0 s) (m + 1) := by
  intro w P g n c i ts r h hL hr
  have hbox : ∀ O O' : Obj, Below w.heap.size w ((w.alloc O).alloc O') := fun O O' => ((Below.refl _ _).alloc (Nat.le_refl _) O).alloc (by simp) O'
  have hold := h.old
  have hon := fun O ty => once_walk m 0 92 (by omega) hE call_rel ((w.alloc O).alloc (.cells #[.string wPut] ty)) P g n c i (w.heap.size + 1) ty ts r (h.below (hbox O _)) (hL.below (hbox O _)) (by have hh := heap_alloc_new (w.alloc O) (.cells #[.string wPut] ty); rw [show (w.alloc O).heap.size = w.heap.size + 1 from by simp] at hh; exact hh) (by have := hold.1; omega) hr
  have HON := Lib.hid hon; have HOLD := Lib.hid hold
  clear hon h hL hold hbox hr hE
  go_enter Tryz.func57, Tryz.ntmps57
  go_wp2_with (fail)
  refine (HON.out _ _).mono ?_
  rintro e w2 (⟨hb, ⟨h, p, l, d, rfl, hT⟩, ho2, hp2⟩ | ⟨hb, rfl, ho2⟩)
  · obtain ⟨hr, _, ho3⟩ := boxes2 ho2 HOLD.out.1
    obtain ⟨⟨r0, r1, r2, r3, r4, r5, r6, r7⟩, f0, f1, f2, f3, f4, f5, f6, f7⟩ := cells8' hr
    have rl2 := lt_of_block hr
    have H := Lib.hid (And.intro hb (And.intro hT (And.intro ho3 hp2)))
    clear hb hT ho2 hp2 hr ho3
    go_wp2_with (fail)
    refine bodyPost_ret (v := .agg #[.int .u8 h.k, .int .u8 h.op, .int .i64 h.pl, .int .i64 h.n, .string h.name, .string h.arg, .string h.exn, .slice p l d]) (by simp [results, Tryz.results57, go_sem, r0, r1, r2, r3, r4, r5, r6, r7]) rfl
      (part_pass H.out.1 H.out.2.1 H.out.2.2.2 H.out.2.2.1 (by simp; omega) (by simp; omega) HOLD.out (fun k hk => set8_other _ _ _ _ _ _ _ _ _ _ _ hk) (Below.set8 w _ _ (Nat.le_refl _) _ _ _ _ _ _ _ _))
  · unfold thrown strayV
    obtain ⟨_, _, ho3⟩ := boxes2 ho2 HOLD.out.1
    have H := Lib.hid (And.intro hb ho3)
    clear hb ho2 ho3
    go_wp2_with (fail)
    exact ⟨rfl, part_thrown (bad_eq H.out.1) H.out.2⟩
theorem call_sum (args : Array Value) (w : World) : (callFunc 121 args).run Tryz.prog w = .ok (.enter 121 args) w := by simp [go_sem, Tryz.func121]
set_option maxRecDepth 10000 in
set_option maxHeartbeats 6400000 in
theorem rel_walk (m : Nat) (hE : ∀ m', m' ≤ m → PE 121 (fun ts m s => levelF ts m (1 + 1) s) m') : PE 92 (fun ts m s => levelF ts m 1 s) (m + 1) := by
  intro w P g n c i ts r h hL hr
  have hbox : ∀ O O' : Obj, Below w.heap.size w ((w.alloc O).alloc O') := fun O O' => ((Below.refl _ _).alloc (Nat.le_refl _) O).alloc (by simp) O'
  have hold := h.old
  have hon := fun O ty => once_walk m 1 121 (by omega) hE call_sum ((w.alloc O).alloc (.cells #[.string wLess, .string wIs] ty)) P g n c i (w.heap.size + 1) ty ts r (h.below (hbox O _)) (hL.below (hbox O _)) (by have hh := heap_alloc_new (w.alloc O) (.cells #[.string wLess, .string wIs] ty); rw [show (w.alloc O).heap.size = w.heap.size + 1 from by simp] at hh; exact hh) (by have := hold.1; omega) hr
  have HON := Lib.hid hon; have HOLD := Lib.hid hold
  clear hon h hL hold hbox hr hE
  go_enter Tryz.func92, Tryz.ntmps92
  go_wp2_with (fail)
  refine (HON.out _ _).mono ?_
  rintro e w2 (⟨hb, ⟨h, p, l, d, rfl, hT⟩, ho2, hp2⟩ | ⟨hb, rfl, ho2⟩)
  · obtain ⟨hr, _, ho3⟩ := boxes2 ho2 HOLD.out.1
    obtain ⟨⟨r0, r1, r2, r3, r4, r5, r6, r7⟩, f0, f1, f2, f3, f4, f5, f6, f7⟩ := cells8' hr
    have rl2 := lt_of_block hr
    have H := Lib.hid (And.intro hb (And.intro hT (And.intro ho3 hp2)))
    clear hb hT ho2 hp2 hr ho3
    go_wp2_with (fail)
    refine bodyPost_ret (v := .agg #[.int .u8 h.k, .int .u8 h.op, .int .i64 h.pl, .int .i64 h.n, .string h.name, .string h.arg, .string h.exn, .slice p l d]) (by simp [results, Tryz.results92, go_sem, r0, r1, r2, r3, r4, r5, r6, r7]) rfl
      (part_pass H.out.1 H.out.2.1 H.out.2.2.2 H.out.2.2.1 (by simp; omega) (by simp; omega) HOLD.out (fun k hk => set8_other _ _ _ _ _ _ _ _ _ _ _ hk) (Below.set8 w _ _ (Nat.le_refl _) _ _ _ _ _ _ _ _))
  · unfold thrown strayV
    obtain ⟨_, _, ho3⟩ := boxes2 ho2 HOLD.out.1
    have H := Lib.hid (And.intro hb ho3)
    clear hb ho2 ho3
    go_wp2_with (fail)
    exact ⟨rfl, part_thrown (bad_eq H.out.1) H.out.2⟩
theorem call_prod (args : Array Value) (w : World) : (callFunc 137 args).run Tryz.prog w = .ok (.enter 137 args) w := by simp [go_sem, Tryz.func137]
set_option maxRecDepth 10000 in
set_option maxHeartbeats 6400000 in
theorem sum_walk (m : Nat) (hE : ∀ m', m' ≤ m → PE 137 (fun ts m s => levelF ts m (2 + 1) s) m') : PE 121 (fun ts m s => levelF ts m 2 s) (m + 1) := by
  intro w P g n c i ts r h hL hr
  have hbox : ∀ O O' : Obj, Below w.heap.size w ((w.alloc O).alloc O') := fun O O' => ((Below.refl _ _).alloc (Nat.le_refl _) O).alloc (by simp) O'
  have hold := h.old
  have hon := fun O ty => row_walk m 2 137 (by omega) hE call_prod ((w.alloc O).alloc (.cells #[.string wAdd, .string wSub] ty)) P g n c i (w.heap.size + 1) ty ts r (h.below (hbox O _)) (hL.below (hbox O _)) (by have hh := heap_alloc_new (w.alloc O) (.cells #[.string wAdd, .string wSub] ty); rw [show (w.alloc O).heap.size = w.heap.size + 1 from by simp] at hh; exact hh) (by have := hold.1; omega) hr
  have HON := Lib.hid hon; have HOLD := Lib.hid hold
  clear hon h hL hold hbox hr hE
  go_enter Tryz.func121, Tryz.ntmps121
  go_wp2_with (fail)
  refine (HON.out _ _).mono ?_
  rintro e w2 (⟨hb, ⟨h, p, l, d, rfl, hT⟩, ho2, hp2⟩ | ⟨hb, rfl, ho2⟩)
  · obtain ⟨hr, _, ho3⟩ := boxes2 ho2 HOLD.out.1
    obtain ⟨⟨r0, r1, r2, r3, r4, r5, r6, r7⟩, f0, f1, f2, f3, f4, f5, f6, f7⟩ := cells8' hr
    have rl2 := lt_of_block hr
    have H := Lib.hid (And.intro hb (And.intro hT (And.intro ho3 hp2)))
    clear hb hT ho2 hp2 hr ho3
    go_wp2_with (fail)
    refine bodyPost_ret (v := .agg #[.int .u8 h.k, .int .u8 h.op, .int .i64 h.pl, .int .i64 h.n, .string h.name, .string h.arg, .string h.exn, .slice p l d]) (by simp [results, Tryz.results121, go_sem, r0, r1, r2, r3, r4, r5, r6, r7]) rfl
      (part_pass H.out.1 H.out.2.1 H.out.2.2.2 H.out.2.2.1 (by simp; omega) (by simp; omega) HOLD.out (fun k hk => set8_other _ _ _ _ _ _ _ _ _ _ _ hk) (Below.set8 w _ _ (Nat.le_refl _) _ _ _ _ _ _ _ _))
  · unfold thrown strayV
    obtain ⟨_, _, ho3⟩ := boxes2 ho2 HOLD.out.1
    have H := Lib.hid (And.intro hb ho3)
    clear hb ho2 ho3
    go_wp2_with (fail)
    exact ⟨rfl, part_thrown (bad_eq H.out.1) H.out.2⟩
theorem call_apply (args : Array Value) (w : World) : (callFunc 146 args).run Tryz.prog w = .ok (.enter 146 args) w := by simp [go_sem, Tryz.func146]
set_option maxRecDepth 10000 in
set_option maxHeartbeats 6400000 in
theorem prod_walk (m : Nat) (hE : ∀ m', m' ≤ m → PE 146 (fun ts m s => levelF ts m (3 + 1) s) m') : PE 137 (fun ts m s => levelF ts m 3 s) (m + 1) := by
  intro w P g n c i ts r h hL hr
  have hbox : ∀ O O' : Obj, Below w.heap.size w ((w.alloc O).alloc O') := fun O O' => ((Below.refl _ _).alloc (Nat.le_refl _) O).alloc (by simp) O'
  have hold := h.old
  have hon := fun O ty => row_walk m 3 146 (by omega) hE call_apply ((w.alloc O).alloc (.cells #[.string wMul] ty)) P g n c i (w.heap.size + 1) ty ts r (h.below (hbox O _)) (hL.below (hbox O _)) (by have hh := heap_alloc_new (w.alloc O) (.cells #[.string wMul] ty); rw [show (w.alloc O).heap.size = w.heap.size + 1 from by simp] at hh; exact hh) (by have := hold.1; omega) hr
  have HON := Lib.hid hon; have HOLD := Lib.hid hold
  clear hon h hL hold hbox hr hE
  go_enter Tryz.func137, Tryz.ntmps137
  go_wp2_with (fail)
  refine (HON.out _ _).mono ?_
  rintro e w2 (⟨hb, ⟨h, p, l, d, rfl, hT⟩, ho2, hp2⟩ | ⟨hb, rfl, ho2⟩)
  · obtain ⟨hr, _, ho3⟩ := boxes2 ho2 HOLD.out.1
    obtain ⟨⟨r0, r1, r2, r3, r4, r5, r6, r7⟩, f0, f1, f2, f3, f4, f5, f6, f7⟩ := cells8' hr
    have rl2 := lt_of_block hr
    have H := Lib.hid (And.intro hb (And.intro hT (And.intro ho3 hp2)))
    clear hb hT ho2 hp2 hr ho3
    go_wp2_with (fail)
    refine bodyPost_ret (v := .agg #[.int .u8 h.k, .int .u8 h.op, .int .i64 h.pl, .int .i64 h.n, .string h.name, .string h.arg, .string h.exn, .slice p l d]) (by simp [results, Tryz.results137, go_sem, r0, r1, r2, r3, r4, r5, r6, r7]) rfl
      (part_pass H.out.1 H.out.2.1 H.out.2.2.2 H.out.2.2.1 (by simp; omega) (by simp; omega) HOLD.out (fun k hk => set8_other _ _ _ _ _ _ _ _ _ _ _ hk) (Below.set8 w _ _ (Nat.le_refl _) _ _ _ _ _ _ _ _))
  · unfold thrown strayV
    obtain ⟨_, _, ho3⟩ := boxes2 ho2 HOLD.out.1
    have H := Lib.hid (And.intro hb ho3)
    clear hb ho2 ho3
    go_wp2_with (fail)
    exact ⟨rfl, part_thrown (bad_eq H.out.1) H.out.2⟩
section
variable {w : World} {P g n c i : Nat} {ts : List Tok}
theorem syes {x : ByteArray} {l : List UInt8} (hl : x.toList = l) (h : PR w P g n c i ts) (hx : x ∈ wordsL) (ht : textOf ts i = x) : ((tel ts i).s.toList == l) = true := by
  rw [(h.good.is_text (by rw [h.row.len]; exact h.lt) hx).2 ht, hl]; exact beq_self_eq_true l
theorem sno {x : ByteArray} {l : List UInt8} (hl : x.toList = l) (h : PR w P g n c i ts) (hx : x ∈ wordsL) (ht : textOf ts i ≠ x) : ((tel ts i).s.toList == l) = false := by
  rw [← hl]; exact str_no fun e => ht ((h.good.is_text (by rw [h.row.len]; exact h.lt) hx).1 e)
end
theorem unary_all (m : Nat) (hE : ∀ m', m' ≤ m → PE 26 exprF m') (hU : ∀ m', m' ≤ m → PE 156 unaryF m') : PE 156 unaryF (m + 1) := by
  intro w P g n c i ts r h hL hr
  unfold unaryF at hr
  rw [if_neg (by simp)] at hr
  have hpre : preN (textOf ts i) = if textOf ts i = wFst then 0 else if textOf ts i = wSnd then 1 else if textOf ts i = wRef then 2 else if textOf ts i = wGet then 3 else 4 := rfl
  by_cases c1 : textOf ts i = wFst
  · have hp : preN (textOf ts i) = 0 := by rw [hpre, if_pos c1]
    rw [if_pos (by rw [hp]; omega), hp] at hr
    obtain ⟨q, hq, he⟩ := Option.map_eq_some_iff.1 hr
    rw [← he]
    exact unary_wFst m hU w P g n c i ts q h hL c1 hq
  by_cases c2 : textOf ts i = wSnd
  · have hp : preN (textOf ts i) = 1 := by rw [hpre, if_neg c1, if_pos c2]
    rw [if_pos (by rw [hp]; omega), hp] at hr
    obtain ⟨q, hq, he⟩ := Option.map_eq_some_iff.1 hr
    rw [← he]
    exact unary_wSnd m hU w P g n c i ts q h hL c2 hq
  by_cases c3 : textOf ts i = wRef
  · have hp : preN (textOf ts i) = 2 := by rw [hpre, if_neg c1, if_neg c2, if_pos c3]
    rw [if_pos (by rw [hp]; omega), hp] at hr
    obtain ⟨q, hq, he⟩ := Option.map_eq_some_iff.1 hr
    rw [← he]
    exact unary_wRef m hU w P g n c i ts q h hL c3 hq
  by_cases c4 : textOf ts i = wGet
  · have hp : preN (textOf ts i) = 3 := by rw [hpre, if_neg c1, if_neg c2, if_neg c3, if_pos c4]
    rw [if_pos (by rw [hp]; omega), hp] at hr
    obtain ⟨q, hq, he⟩ := Option.map_eq_some_iff.1 hr
    rw [← he]
    exact unary_wGet m hU w P g n c i ts q h hL c4 hq
  have hp : preN (textOf ts i) = 4 := by rw [hpre, if_neg c1, if_neg c2, if_neg c3, if_neg c4]
  rw [if_neg (by rw [hp]; omega)] at hr
  have n1 := sno tl_wGet h (by simp [wordsL]) c4
  have n2 := sno tl_wRef h (by simp [wordsL]) c3
  have n3 := sno tl_wFst h (by simp [wordsL]) c1
  have n4 := sno tl_wSnd h (by simp [wordsL]) c2
  by_cases c5 : textOf ts i = wRaise
  · rw [if_pos c5] at hr
    obtain ⟨q, hq, he⟩ := Option.map_eq_some_iff.1 hr
    rw [← he]
    exact unary_raise w P g n c i ts _ h n1 n2 n3 n4 (syes tl_wRaise h (by simp [wordsL]) c5) (fun W hb => raise_walk m hU W P g n c i ts q (h.below hb) (hL.below hb) c5 hq)
  rw [if_neg c5] at hr
  have n5 := sno tl_wRaise h (by simp [wordsL]) c5
  have hlen : i < ts.length := by rw [h.row.len]; exact h.lt
  by_cases c6 : textOf ts i = wOpen
  · have hk := textOf_some ts (i := i) (by rw [c6]; exact (words_apart wOpen (by simp [wordsL])).2.2.2)
    rw [if_neg (show ¬ (tel ts i).k = 1 by omega), if_neg (show ¬ (tel ts i).k = 2 by omega), want_ok c6] at hr
    obtain ⟨r1, hr1, hR⟩ := Option.bind_eq_some_iff.1 hr
    exact unary_open w P g n c i ts _ h n1 n2 n3 n4 n5 (syes tl_wOpen h (by simp [wordsL]) c6) (fun W hb => brackets_walk m hE W P g n c i ts r1 r (h.below hb) (hL.below hb) c6 hr1 hR)
  have n6 := sno tl_wOpen h (by simp [wordsL]) c6
  have hlf : r.1 = (leafF ts i).1 ∧ (r.1.bad = false → r = leafF ts i) := by
    unfold leafF
    by_cases k1 : (tel ts i).k = 1
    · rw [if_pos k1] at hr ⊢
      injection hr with hr
      rw [← hr]
      exact ⟨rfl, fun _ => rfl⟩
    by_cases k2 : (tel ts i).k = 2
    · rw [if_neg k1, if_pos k2] at hr ⊢
      injection hr with hr
      rw [← hr]
      exact ⟨rfl, fun _ => rfl⟩
    · rw [if_neg k1, if_neg k2, want_no c6] at hr
      rw [if_neg k1, if_neg k2]
      obtain ⟨r1, hr1, hR⟩ := Option.bind_eq_some_iff.1 hr
      have hb := expr_bad ts rfl hr1
      rw [if_pos (.inl (by rw [hb])), hb, want_bad ts rfl] at hR
      injection hR with hR
      rw [← hR]
      exact ⟨rfl, fun h => by cases h⟩
  refine unary_leaf w P g n c i ts _ h n1 n2 n3 n4 n5 n6 (fun W hb => (leaf_walk W P g n c i ts (h.below hb) (hL.below hb)).mono ?_)
  rintro e w' (⟨hb, hT, ho, hp⟩ | ⟨hb, he, ho⟩)
  · have hrb : r.1.bad = false := by rw [hlf.1]; exact hb
    rw [hlf.2 hrb]
    exact .inl ⟨hb, hT, ho, hp⟩
  · exact .inr ⟨by rw [hlf.1]; exact hb, by rw [hlf.1]; exact he, ho⟩
theorem expr_all (m : Nat) (hE : ∀ m', m' ≤ m → PE 26 exprF m') (hS : PE 57 (fun ts m s => levelF ts m 0 s) m) : PE 26 exprF (m + 1) := by
  intro w P g n c i ts r h hL hr
  unfold exprF at hr
  rw [if_neg (by simp)] at hr
  by_cases c1 : textOf ts i = wLet
  · rw [if_pos c1, want_ok c1] at hr
    obtain ⟨q, hq, he⟩ := Option.map_eq_some_iff.1 hr
    rw [← he]
    exact expr_let w P g n c i ts _ h (syes tl_wLet h (by simp [wordsL]) c1) (fun W hb => let_walk m hE W P g n c i ts q (h.below hb) (hL.below hb) c1 hq)
  rw [if_neg c1] at hr
  have n1 := sno tl_wLet h (by simp [wordsL]) c1
  by_cases c2 : textOf ts i = wLetrec
  · rw [if_pos c2, want_ok c2] at hr
    obtain ⟨q, hq, he⟩ := Option.map_eq_some_iff.1 hr
    rw [← he]
    exact expr_letrec w P g n c i ts _ h n1 (syes tl_wLetrec h (by simp [wordsL]) c2) (fun W hb => letrec_walk m hE W P g n c i ts q (h.below hb) (hL.below hb) c2 hq)
  rw [if_neg c2] at hr
  have n2 := sno tl_wLetrec h (by simp [wordsL]) c2
  by_cases c3 : textOf ts i = wFn
  · rw [if_pos c3, want_ok c3] at hr
    obtain ⟨q, hq, he⟩ := Option.map_eq_some_iff.1 hr
    rw [← he]
    exact expr_fn w P g n c i ts _ h n1 n2 (syes tl_wFn h (by simp [wordsL]) c3) (fun W hb => fn_walk m hE W P g n c i ts q (h.below hb) (hL.below hb) c3 hq)
  rw [if_neg c3] at hr
  have n3 := sno tl_wFn h (by simp [wordsL]) c3
  by_cases c4 : textOf ts i = wIf
  · rw [if_pos c4, want_ok c4] at hr
    obtain ⟨q, hq, he⟩ := Option.map_eq_some_iff.1 hr
    rw [← he]
    exact expr_choice w P g n c i ts _ h n1 n2 n3 (syes tl_wIf h (by simp [wordsL]) c4) (fun W hb => choice_walk m hE W P g n c i ts q (h.below hb) (hL.below hb) c4 hq)
  rw [if_neg c4] at hr
  have n4 := sno tl_wIf h (by simp [wordsL]) c4
  by_cases c5 : textOf ts i = wTry
  · rw [if_pos c5, want_ok c5] at hr
    obtain ⟨q, hq, he⟩ := Option.bind_eq_some_iff.1 hr
    obtain ⟨q2, hq2, he2⟩ := Option.map_eq_some_iff.1 he
    rw [← he2]
    exact expr_handler w P g n c i ts _ h n1 n2 n3 n4 (syes tl_wTry h (by simp [wordsL]) c5) (fun W hb => handler_walk m hE W P g n c i ts q q2 (h.below hb) (hL.below hb) c5 hq hq2)
  rw [if_neg c5] at hr
  exact expr_set w P g n c i ts _ h n1 n2 n3 n4 (sno tl_wTry h (by simp [wordsL]) c5) (fun W hb => hS W P g n c i ts r (h.below hb) (hL.below hb) hr)
theorem pe_zero (K : Nat) (F : List Tok → Nat → St → Option (St × Tm)) (h : ∀ ts s, F ts 0 s = none) : PE K F 0 := fun w P g n c i ts r _ _ hr => by rw [h] at hr; cases hr
/-- All parts, whatever the fuel. -/
theorem parts_all : ∀ m : Nat, ∀ m', m' ≤ m → PE 26 exprF m' ∧ PE 57 (fun ts m s => levelF ts m 0 s) m' ∧ PE 92 (fun ts m s => levelF ts m 1 s) m' ∧ PE 121 (fun ts m s => levelF ts m 2 s) m' ∧ PE 137 (fun ts m s => levelF ts m 3 s) m' ∧ PE 146 (fun ts m s => levelF ts m 4 s) m' ∧ PE 146 applyF m' ∧ PE 156 unaryF m' := by
  intro m
  induction m with
  | zero =>
    intro m' hm'
    obtain rfl : m' = 0 := by omega
    refine ⟨pe_zero _ _ ?_, pe_zero _ _ ?_, pe_zero _ _ ?_, pe_zero _ _ ?_, pe_zero _ _ ?_, pe_zero _ _ ?_, pe_zero _ _ ?_, pe_zero _ _ ?_⟩ <;> (intro ts s; simp [exprF, levelF, applyF, unaryF])
  | succ m ih =>
    intro m' hm'
    by_cases hlt : m' ≤ m
    · exact ih m' hlt
    obtain rfl : m' = m + 1 := by omega
    refine ⟨expr_all m (fun m' h => (ih m' h).1) (ih m (Nat.le_refl _)).2.1, set_walk m (fun m' h => (ih m' h).2.2.1), rel_walk m (fun m' h => (ih m' h).2.2.2.1), sum_walk m (fun m' h => (ih m' h).2.2.2.2.1), prod_walk m (fun m' h => (ih m' h).2.2.2.2.2.1), ?_, ?_, unary_all m (fun m' h => (ih m' h).1) (fun m' h => (ih m' h).2.2.2.2.2.2.2)⟩
    · intro w P g n c i ts r h hL hr
      have hr' : applyF ts m ⟨i, false⟩ = some r := by
        have : levelF ts (m + 1) 4 ⟨i, false⟩ = some r := hr
        unfold levelF at this
        rw [if_pos rfl] at this
        exact this
      exact (ih m (Nat.le_refl _)).2.2.2.2.2.2.1 w P g n c i ts r h hL hr'
    · intro w P g n c i ts r h hL hr
      exact apply_walk m (fun m' h => (ih m' h).2.2.2.2.2.2.2) w P g n c i ts r h hL hr
theorem expr_walk (m : Nat) : PE 26 exprF m := (parts_all m m (Nat.le_refl _)).1
end Parse
end Go.Proofs.YtadpjkehflokcaaGreatDoor
