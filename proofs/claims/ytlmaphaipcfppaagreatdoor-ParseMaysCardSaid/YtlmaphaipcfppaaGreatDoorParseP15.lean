/- The program's reading of tokens: handlers. -/
import Derived.Test.YtlmaphaipcfppaaGreatDoorParseP14
import Derived.Test.YtlmaphaipcfppaaGreatDoorParseP6
import Derived.Deep.RegionHeld3
import Derived.Deep.LoopGhost
import Derived.RegionTactic
namespace Go.Proofs.YtlmaphaipcfppaaGreatDoor
open Go.RowKit
set_option linter.unusedVariables false
set_option linter.unusedSimpArgs false
namespace Parse
open Token (Tok tel ToksAt)
open Term (Tm Hd TmIs Kids ret_bool ret_i64 Reads veil Flat tcells)
open Words (str_no str_yes NumLaid)
open Chars (isin BytesAt)
set_option maxRecDepth 10000 in
set_option maxHeartbeats 25600000 in
theorem handler_walk (m : Nat) (hE : ∀ m', m' ≤ m → PE 27 exprF m') (w : World) (P g n c i : Nat) (ts : List Tok) (q1 q2 : St × List Tm) (h : PR w P g n c i ts) (hL : Lay w P) (ht : textOf ts i = wTry) (hq1 : partsF ts m [e0] ⟨i + 1, false⟩ = some q1)
    (hq2 : partsF ts m [wArrow] (getF ts (getF ts (wantF ts q1.1 wWith) 3) 2) = some q2) :
    Calls Tryz.prog 48 #[.pointer (some ⟨P, 0, none⟩)] w (PartEnd P g n c ts (q2.1, .node ⟨16, 0, plA ts i, 0, ⟨#[]⟩, getS ts (getF ts (wantF ts q1.1 wWith) 3) 2, getS ts (wantF ts q1.1 wWith) 3⟩ (q1.2 ++ q2.2)) w) := by
  obtain ⟨m0, r0, hm0, hr0, rfl⟩ := parts0 ts hq1
  obtain ⟨m1, r1, hm1, hr1, rfl⟩ := parts1 ts ne_e0.2.2.1 hq2
  have hne := text_not_end (x := wTry) (by simp [wordsL]) ht
  have hbox : ∀ O : Obj, Below w.heap.size w (w.alloc O) := fun O => ((Below.refl _ _).alloc (Nat.le_refl _) O)
  have hhd := fun O => head_walk (w.alloc O) P g n c i ts 16 (h.below (hbox O)) hne
  have hold := h.old
  have hpl := h.pl
  have htx := h.row.texts
  have HHD := Lib.hid hhd; have HOLD := Lib.hid hold; have HL := Lib.hid hL; have HE := Lib.hid hE; have HPL := Lib.hid hpl; have HTX := Lib.hid htx; have HQ0 := Lib.hid hr0; have HQ1 := Lib.hid hr1
  unfold headV at HHD
  clear hhd h hbox hold hL hE hpl htx hne ht hq1 hq2 hr0 hr1
  go_enter Tryz.func48, Tryz.ntmps48
  go_wp2_with (fail)
  refine (HHD.out _).mono ?_
  rintro e w1 ⟨rfl, ho, hp⟩
  obtain ⟨h3, h4⟩ := box_off ho HOLD.out.1
  have HR := Lib.hid h3; have HO := Lib.hid h4; have HP := Lib.hid hp; have HSZ := Lib.hid (lt_of_block h3)
  clear ho hp h3 h4
  have hbx1 : ∀ O : Obj, Below w1.heap.size w1 (w1.alloc O) := fun O => (Below.refl _ _).alloc (Nat.le_refl _) O
  have hpt := fun O => HE.out m0 hm0 (w1.alloc O) P g n c (i + 1) ts r0 (HP.out.below (hbx1 O)) (HL.out.off (HO.out.trans (Off.of_below (hbx1 O)))) HQ0.out
  have HPT := Lib.hid hpt
  clear hpt hbx1
  go_wp2_with (fail)
  refine (HPT.out _).mono ?_
  rintro e y0 (⟨hbd, ⟨h0, p0, l0, d0, rfl, hT⟩, ho, hp⟩ | ⟨hbd, rfl, ho⟩)
  rotate_left
  · unfold thrown strayV
    have hq := HQ1.out
    rw [want_bad ts hbd, get_bad ts hbd, get_bad ts hbd] at hq
    have H := Lib.hid (And.intro ((then_bad ts hbd hq).trans (bad_eq hbd)) (HO.out.trans (box_off ho (Nat.lt_of_lt_of_le HOLD.out.1 HO.out.size)).2))
    clear hbd ho hq
    go_wp2_with (fail)
    exact ⟨rfl, part_thrown H.out.1 H.out.2⟩
  obtain ⟨h3, h4⟩ := box_off ho (Nat.lt_of_lt_of_le HOLD.out.1 HO.out.size)
  have HHX := Lib.hid h3; have HO0 := Lib.hid (HO.out.trans h4); have HT := Lib.hid hT; have HBD := Lib.hid hbd; have HSZ2 := Lib.hid (lt_of_block h3)
  have HR0 := Lib.hid (box_later HR.out h4 (by have := HOLD.out.1; omega))
  have hbx2 : ∀ O : Obj, Below y0.heap.size y0 (y0.alloc O) := fun O => (Below.refl _ _).alloc (Nat.le_refl _) O
  have hwd := fun O => word_walk (y0.alloc O) P g n c r0.1.i ts wWith (hp.below (hbx2 O)) (by simp [wordsL])
  have HWD := Lib.hid hwd
  unfold WordEnd thrown strayV at HWD
  clear hbd hT ho hp h3 h4 hwd hbx2
  go_wp2_with (fail)
  refine (HWD.out _).mono ?_
  rintro e y1 (⟨hx, rfl, ho, hp⟩ | ⟨hx, rfl, ho⟩)
  rotate_left
  · have hq := HQ1.out
    rw [good_eq HBD.out, want_no hx, get_bad ts rfl, get_bad ts rfl] at hq
    have H := Lib.hid (And.intro (then_bad ts rfl hq) (HO0.out.trans (box_off ho (Nat.lt_of_lt_of_le HOLD.out.1 HO0.out.size)).2))
    clear hx ho hq
    go_wp2_with (fail)
    exact ⟨rfl, part_thrown H.out.1 H.out.2⟩
  obtain ⟨h3, h4⟩ := box_off ho (Nat.lt_of_lt_of_le HOLD.out.1 HO0.out.size)
  have HTB1 := Lib.hid h3; have HO1 := Lib.hid (HO0.out.trans h4); have HX := Lib.hid hx; have HYZ := Lib.hid (lt_of_block h3)
  have HR1 := Lib.hid (box_later HR0.out h4 (by have := HOLD.out.1; omega)); have HHX1 := Lib.hid (box_later HHX.out h4 (by have := HOLD.out.1; have := HSZ.out; omega))
  have HTM1 := Lib.hid (HT.out.reads' (Term.veil_to (P' := (fun b => decide (w1.heap.size + 1 ≤ b ∧ b ≠ y0.heap.size))) (W' := y1) fun b hbv hv => by
    have hv := of_decide_eq_true hv
    have hs : w1.heap.size + 1 ≤ b := by simpa using hv
    have := HOLD.out.1; have := HSZ.out
    exact ⟨decide_eq_true ⟨hs, by omega⟩, h4.block b hbv (by omega)⟩))
  have hen := exn_walk y1 P g n c (r0.1.i + 1) ts hp
  have HEN := Lib.hid hen
  unfold NameEnd thrown strayV at HEN
  clear hx ho hp h3 h4 hen HT HWD HHX HR0
  go_wp2_with (fail)
  refine HEN.out.mono ?_
  rintro e y2 (⟨hk, rfl, ho, hp⟩ | ⟨hk, rfl, ho⟩)
  rotate_left
  · have hq := HQ1.out
    rw [good_eq HBD.out, want_ok HX.out, get_no ts hk, get_bad ts rfl] at hq
    have H := Lib.hid (And.intro (then_bad ts rfl hq) (HO1.out.trans ho))
    clear hk ho hq
    go_wp2_with (fail)
    exact ⟨rfl, part_thrown H.out.1 H.out.2⟩
  have hh2 := box_later HHX1.out ho (by have := HOLD.out.1; have := HSZ.out; omega)
  obtain ⟨⟨q0, q1, q2, q3, q4, q5, q6⟩, e0, e1, e2, e3, e4, e5, e6⟩ := cells7' hh2
  have ql := lt_of_block hh2
  have hb3 : Below w1.heap.size y2 (y2.setCell ⟨w1.heap.size, 6, none⟩ (.string (tel ts (r0.1.i + 1)).s)) := set_new _ _ _ _
  have HHX2 := Lib.hid (show (y2.setCell ⟨w1.heap.size, 6, none⟩ (.string (tel ts (r0.1.i + 1)).s)).heap[w1.heap.size]? = some (.cells #[.int .u8 16, .int .u8 0, .int .i64 (tel ts i).a, .int .i64 0, .string ⟨#[]⟩, .string ⟨#[]⟩, .string (tel ts (r0.1.i + 1)).s] 26 (0, 0)) from set_block hh2)
  have HR2 := Lib.hid ((hb3.block _ HSZ.out).trans (box_later HR1.out ho (by have := HOLD.out.1; omega)))
  have hne6 : y0.heap.size ≠ w1.heap.size := by have := HSZ2.out; omega
  have HTB2 := Lib.hid ((Below.heap_setCell y2 ⟨w1.heap.size, 6, none⟩ (.string (tel ts (r0.1.i + 1)).s) _ hne6).trans (box_later HTB1.out ho (by have := HOLD.out.1; have := HSZ.out; have := HSZ2.out; omega)))
  have HO2 := Lib.hid ((HO1.out.trans ho).then (hb3.mono HO.out.size)); have HP2 := Lib.hid (hp.keep hb3 (Nat.lt_of_lt_of_le HOLD.out.1 HO.out.size) (Nat.lt_of_lt_of_le HOLD.out.2 HO.out.size))
  have HTM2 := Lib.hid (HTM1.out.reads' (Term.veil_to (P' := (fun b => decide (w1.heap.size + 1 ≤ b ∧ b ≠ y0.heap.size))) (W' := y2.setCell ⟨w1.heap.size, 6, none⟩ (.string (tel ts (r0.1.i + 1)).s)) fun b hbv hv => by
    have hv' := of_decide_eq_true hv
    have := HOLD.out.1; have := HSZ.out
    exact ⟨hv, (Below.heap_setCell _ _ _ _ (by show b ≠ w1.heap.size; omega)).trans (ho.block b hbv (by omega))⟩))
  have HK1 := Lib.hid hk
  have HLT1 := Lib.hid (show r0.1.i + 1 < n from by have := hp.lt; omega)
  clear hk ho hp hh2 hb3 HR1 HTB1 HTM1 HHX1
  go_wp2_with (fail)
  generalize hg : y2.setCell ⟨w1.heap.size, 6, none⟩ (.string (tel ts (r0.1.i + 1)).s) = u2 at *
  clear hg q0 q1 q2 q3 q4 q5 q6 e0 e1 e2 e3 e4 e5 e6 ql
  have hnm := name_walk u2 P g n c (r0.1.i + 1 + 1) ts HP2.out
  have HNM := Lib.hid hnm
  unfold NameEnd thrown strayV at HNM
  clear hnm HEN
  refine HNM.out.mono ?_
  rintro e y3 (⟨hk, rfl, ho, hp⟩ | ⟨hk, rfl, ho⟩)
  rotate_left
  · have hq := HQ1.out
    rw [good_eq HBD.out, want_ok HX.out, (get_ok ts HK1.out).1, get_no ts hk] at hq
    have H := Lib.hid (And.intro (then_bad ts rfl hq) (HO2.out.trans ho))
    clear hk ho hq
    go_wp2_with (fail)
    exact ⟨rfl, part_thrown H.out.1 H.out.2⟩
  have hh2 := box_later HHX2.out ho (by have := HOLD.out.1; have := HSZ.out; omega)
  obtain ⟨⟨q0, q1, q2, q3, q4, q5, q6⟩, e0, e1, e2, e3, e4, e5, e6⟩ := cells7' hh2
  have ql := lt_of_block hh2
  have hb3 : Below w1.heap.size y3 (y3.setCell ⟨w1.heap.size, 5, none⟩ (.string (tel ts (r0.1.i + 1 + 1)).s)) := set_new _ _ _ _
  have HHX3 := Lib.hid (show (y3.setCell ⟨w1.heap.size, 5, none⟩ (.string (tel ts (r0.1.i + 1 + 1)).s)).heap[w1.heap.size]? = some (.cells #[.int .u8 16, .int .u8 0, .int .i64 (tel ts i).a, .int .i64 0, .string ⟨#[]⟩, .string (tel ts (r0.1.i + 1 + 1)).s, .string (tel ts (r0.1.i + 1)).s] 26 (0, 0)) from set_block hh2)
  have HR3 := Lib.hid ((hb3.block _ HSZ.out).trans (box_later HR2.out ho (by have := HOLD.out.1; omega)))
  have HTB3 := Lib.hid ((Below.heap_setCell y3 ⟨w1.heap.size, 5, none⟩ (.string (tel ts (r0.1.i + 1 + 1)).s) _ hne6).trans (box_later HTB2.out ho (by have := HOLD.out.1; have := HSZ.out; have := HSZ2.out; omega)))
  have HO3 := Lib.hid ((HO2.out.trans ho).then (hb3.mono HO.out.size)); have HP3 := Lib.hid (hp.keep hb3 (Nat.lt_of_lt_of_le HOLD.out.1 HO.out.size) (Nat.lt_of_lt_of_le HOLD.out.2 HO.out.size))
  have HTM3 := Lib.hid (HTM2.out.reads' (Term.veil_to (P' := (fun b => decide (w1.heap.size + 1 ≤ b ∧ b ≠ y0.heap.size))) (W' := y3.setCell ⟨w1.heap.size, 5, none⟩ (.string (tel ts (r0.1.i + 1 + 1)).s)) fun b hbv hv => by
    have hv' := of_decide_eq_true hv
    have := HOLD.out.1; have := HSZ.out
    exact ⟨hv, (Below.heap_setCell _ _ _ _ (by show b ≠ w1.heap.size; omega)).trans (ho.block b hbv (by omega))⟩))
  have HK2 := Lib.hid hk
  have HLT2 := Lib.hid (show r0.1.i + 1 + 1 < n from by have := hp.lt; omega)
  clear hk ho hp hh2 hb3 HR2 HTB2 HTM2 HHX2
  go_wp2_with (fail)
  generalize hg : y3.setCell ⟨w1.heap.size, 5, none⟩ (.string (tel ts (r0.1.i + 1 + 1)).s) = u3 at *
  clear hg q0 q1 q2 q3 q4 q5 q6 e0 e1 e2 e3 e4 e5 e6 ql
  have hq := HQ1.out
  rw [good_eq HBD.out, want_ok HX.out, (get_ok ts HK1.out).1, (get_ok ts HK2.out).1] at hq
  have hU : Below u3.heap.size u3 u3.drew := (Below.refl _ _).drew
  have hbh := behind_walk m1 (HE.out m1 hm1) u3.drew P g n c (r0.1.i + 1 + 1 + 1) ts wArrow r1 (HP3.out.below hU) (HL.out.off (HO3.out.trans (Off.of_below hU))) (by simp [wordsL]) hq
  have HBH := Lib.hid hbh; have HOU := Lib.hid (HO3.out.trans (Off.of_below hU))
  have HYU := Lib.hid (lt_of_block HTB3.out)
  clear hq hU hbh
  refine wp_region_held_drew (S := fun W => W.heap[w1.heap.size]? = some (.cells #[.int .u8 16, .int .u8 0, .int .i64 (tel ts i).a, .int .i64 0, .string ⟨#[]⟩, .string (tel ts (r0.1.i + 1 + 1)).s, .string (tel ts (r0.1.i + 1)).s] 26 (0, 0)) ∧ W.heap[y0.heap.size]? = some (.cells #[.int .u8 h0.k, .int .u8 h0.op, .int .i64 h0.pl, .int .i64 h0.n, .string h0.name, .string h0.arg, .string h0.exn, .slice p0 l0 d0] 29 (0, 0))) (by kernel_rfl) ⟨HHX3.out, HTB3.out⟩ (fun hHeld => ?_)
  refine wpAnyH_take (i := 0) (v := .agg #[.int .u8 16, .int .u8 0, .int .i64 (tel ts i).a, .int .i64 0, .string ⟨#[]⟩, .string (tel ts (r0.1.i + 1 + 1)).s, .string (tel ts (r0.1.i + 1)).s]) rfl (by kernel_rfl) (by kernel_rfl) (by kernel_rfl) (fun _ _ _ h => h) (Or.inl ⟨by rfl, ?_⟩) (by assumption) ?_
  · intro w' hSw
    obtain ⟨⟨q0, q1, q2, q3, q4, q5, q6⟩, e0, e1, e2, e3, e4, e5, e6⟩ := cells7' hSw.1
    go_simp
  try simp only [Act.put, List.setIfInBounds_toArray, List.set_cons_zero, List.set_cons_succ]
  refine wpAnyH_take (i := 1) (v := .agg #[.int .u8 h0.k, .int .u8 h0.op, .int .i64 h0.pl, .int .i64 h0.n, .string h0.name, .string h0.arg, .string h0.exn, .slice p0 l0 d0]) rfl (by kernel_rfl) (by kernel_rfl) (by kernel_rfl) (fun _ _ _ h => h) (Or.inl ⟨by rfl, ?_⟩) (by assumption) ?_
  · intro w' hSw
    obtain ⟨⟨q0, q1, q2, q3, q4, q5, q6, q7⟩, e0, e1, e2, e3, e4, e5, e6, e7⟩ := cells8' hSw.2
    go_simp
  try simp only [Act.put, List.setIfInBounds_toArray, List.set_cons_zero, List.set_cons_succ]
  refine wpAnyH_take (i := 2) (v := .pointer (some ⟨P, 0, none⟩)) rfl (by kernel_rfl) (by kernel_rfl) (by kernel_rfl) (fun _ _ _ h => h) (Or.inl ⟨by rfl, ?_⟩) (by assumption) ?_
  · intro w' hSw
    go_simp
  try simp only [Act.put, List.setIfInBounds_toArray, List.set_cons_zero, List.set_cons_succ]
  refine wpAnyH_take (i := 3) (v := .pointer (some ⟨P, 0, none⟩)) rfl (by kernel_rfl) (by kernel_rfl) (by kernel_rfl) (fun _ _ _ h => h) (Or.inl ⟨by rfl, ?_⟩) (by assumption) ?_
  · intro w' hSw
    go_simp
  try simp only [Act.put, List.setIfInBounds_toArray, List.set_cons_zero, List.set_cons_succ]
  refine wpAnyH_take (i := 4) (v := .func (.func 27) #[.pointer (some ⟨P, 0, none⟩)] #[]) rfl (by kernel_rfl) (by kernel_rfl) (by kernel_rfl) (fun _ _ _ h => h) (Or.inl ⟨by rfl, ?_⟩) (by assumption) ?_
  · intro w' hSw
    first | go_simp | rfl
  try simp only [Act.put, List.setIfInBounds_toArray, List.set_cons_zero, List.set_cons_succ]
  refine wpAnyH_ready (rs := [5]) (by kernel_rfl) (by simp) ?_
  refine AllReadyH.cons rfl (fun K hK => ?_) AllReadyH.nil
  have HH := Lib.hid hHeld
  clear hHeld
  go_simp
  refine HBH.out.mono ?_
  rintro e y4 (⟨hbd, ⟨h1, p1, l1, d1, rfl, hT2⟩, ho4, hp4⟩ | ⟨hbd, rfl, ho4⟩)
  rotate_left
  · unfold thrown strayV
    exact ⟨rfl, part_thrown (bad_eq hbd) (HOU.out.trans ho4)⟩
  have hX1 := box_later HH.out.1 ho4 (by have := HOLD.out.1; have := HSZ.out; omega)
  have hX2 := box_later HH.out.2 ho4 (by have := HOLD.out.1; have := HSZ.out; have := HSZ2.out; omega)
  have HR4 := Lib.hid (box_later HR3.out (P := P) (w := u3) (w' := y4) ⟨ho4.os, ho4.tape, ho4.output, ho4.size, ho4.block⟩ (by have := HOLD.out.1; omega))
  have HTA := Lib.hid (HTM3.out.reads' (Term.veil_to (P' := (fun b => decide (w.heap.size + 1 ≤ b))) (W' := y4) fun b hbv hv => ⟨decide_eq_true (by have hv := of_decide_eq_true hv; have := HSZ.out; omega), ho4.block b hbv (by have hv := of_decide_eq_true hv; have := HOLD.out.1; have := HSZ.out; omega)⟩))
  have HTQ := Lib.hid (hT2.reads' (Term.veil_to (P' := (fun b => decide (w.heap.size + 1 ≤ b))) (W' := y4) fun b hbv hv => ⟨decide_eq_true (by have hv := of_decide_eq_true hv; have := HSZ.out; have := HSZ2.out; have := HYU.out; have hz : u3.drew.heap.size = u3.heap.size := rfl; omega), rfl⟩))
  have hys : w.heap.size < y4.heap.size := Nat.lt_of_lt_of_le (by have := HSZ.out; have := HSZ2.out; have := HYU.out; have hz : u3.drew.heap.size = u3.heap.size := rfl; omega) ho4.size
  have HYS := Lib.hid hys
  have H := Lib.hid (And.intro hbd (And.intro (HOU.out.trans ho4) hp4))
  clear hbd hT2 ho4 hp4 HH hys
  refine hK.out _ _ ⟨hX1, hX2⟩ (fun hHeld => ?_)
  try simp only [Act.put, List.setIfInBounds_toArray, List.set_cons_zero, List.set_cons_succ]
  clear hK hX1 hX2 K
  refine wpAnyH_ready (rs := [6]) (by kernel_rfl) (by simp) ?_
  refine AllReadyH.cons rfl (fun K hK => ?_) AllReadyH.nil
  have HH := Lib.hid hHeld
  clear hHeld
  go_simp
  refine hK.out _ _ ⟨(Below.heap_alloc y4 (.cells #[.int .u8 h0.k, .int .u8 h0.op, .int .i64 h0.pl, .int .i64 h0.n, .string h0.name, .string h0.arg, .string h0.exn, .slice p0 l0 d0, .int .u8 h1.k, .int .u8 h1.op, .int .i64 h1.pl, .int .i64 h1.n, .string h1.name, .string h1.arg, .string h1.exn, .slice p1 l1 d1] 29) _ (lt_of_block HH.out.1)).trans HH.out.1, (Below.heap_alloc y4 (.cells #[.int .u8 h0.k, .int .u8 h0.op, .int .i64 h0.pl, .int .i64 h0.n, .string h0.name, .string h0.arg, .string h0.exn, .slice p0 l0 d0, .int .u8 h1.k, .int .u8 h1.op, .int .i64 h1.pl, .int .i64 h1.n, .string h1.name, .string h1.arg, .string h1.exn, .slice p1 l1 d1] 29) _ (lt_of_block HH.out.2)).trans HH.out.2⟩ (fun hHeld => ?_)
  try simp only [Act.put, List.setIfInBounds_toArray, List.set_cons_zero, List.set_cons_succ]
  clear hK K HH
  refine wpAnyH_ready (rs := [7]) (by kernel_rfl) (by simp) ?_
  refine AllReadyH.cons rfl (fun K hK => ?_) AllReadyH.nil
  have HH := Lib.hid hHeld
  clear hHeld
  go_simp
  refine (node_walk _ 16 0 (tel ts i).a 0 ⟨#[]⟩ (tel ts (r0.1.i + 1 + 1)).s (tel ts (r0.1.i + 1)).s (some ⟨y4.heap.size, 0, none⟩) 2 2).mono ?_
  rintro e y5 ⟨rfl, hbz⟩
  obtain ⟨hrow, hbz2⟩ := one_box hbz
  have hX1 := (hbz.block _ (lt_of_block HH.out.1)).trans HH.out.1
  have hX2 := (hbz.block _ (lt_of_block HH.out.2)).trans HH.out.2
  have HROW := Lib.hid hrow; have HBZ := Lib.hid hbz2
  have HR5 := Lib.hid ((hbz2.block _ (lt_of_block HR4.out)).trans HR4.out)
  clear hrow hbz hbz2 HH
  refine hK.out _ _ ⟨hX1, hX2⟩ (fun hHeld => ?_)
  try simp only [Act.put, List.setIfInBounds_toArray, List.set_cons_zero, List.set_cons_succ]
  clear hK hX1 hX2 K
  refine wpAnyH_ready (rs := [8]) (by kernel_rfl) (by simp) ?_
  refine AllReadyH.cons rfl (fun K hK => ?_) AllReadyH.nil
  have HH := Lib.hid hHeld
  clear hHeld
  obtain ⟨⟨b0, b1, b2, b3, b4, b5, b6, b7⟩, f0, f1, f2, f3, f4, f5, f6, f7⟩ := cells8' HR5.out
  have rl := lt_of_block HR5.out
  go_simp
  refine hK.out _ _ ⟨(set8_other _ _ _ _ _ _ _ _ _ _ _ (by have := HSZ.out; omega)).trans HH.out.1, (set8_other _ _ _ _ _ _ _ _ _ _ _ (by have := HSZ.out; have := HSZ2.out; omega)).trans HH.out.2⟩ (fun hHeld => ?_)
  refine wpAnyH_done (by kernel_rfl) ?_ _
  clear hK K hHeld HH
  go_wp2_with (fail)
  refine bodyPost_ret (v := .agg #[.int .u8 16, .int .u8 0, .int .i64 (tel ts i).a, .int .i64 0, .string ⟨#[]⟩, .string (tel ts (r0.1.i + 1 + 1)).s, .string (tel ts (r0.1.i + 1)).s, .slice (some ⟨y4.heap.size, 0, none⟩) 2 2]) (by simp [results, Tryz.results48, go_sem, b0, b1, b2, b3, b4, b5, b6, b7]) rfl ?_
  have hgs : getS ts (getF ts (wantF ts r0.1 wWith) 3) 2 = (tel ts (r0.1.i + 1 + 1)).s ∧ getS ts (wantF ts r0.1 wWith) 3 = (tel ts (r0.1.i + 1)).s := by
    rw [good_eq HBD.out, want_ok HX.out, (get_ok ts HK1.out).1, (get_ok ts HK1.out).2, (get_ok ts HK2.out).2]
    exact ⟨rfl, rfl⟩
  refine node_end (xs := tcells h0 p0 l0 d0 ++ tcells h1 p1 l1 d1) (kids := [r0.2, r1.2]) H.out.1 (by show Tm.node _ _ = _; rw [hgs.1, hgs.2]; rfl) HROW.out HYS.out (((Flat.one HTA.out).append (Flat.one HTQ.out)).reads (veil_below HBZ.out)) rfl (by unfold maxLen; omega) (hd_any (by omega) HPL.out e0_small (HTX.out _ HLT2.out) (HTX.out _ HLT1.out)) (H.out.2.1.trans (Off.of_below HBZ.out)) (H.out.2.2.below HBZ.out) HOLD.out (fun k hk => set8_other _ _ _ _ _ _ _ _ _ _ _ hk) (Below.set8 w _ _ (Nat.le_refl _) _ _ _ _ _ _ _ _)
end Parse
end Go.Proofs.YtlmaphaipcfppaaGreatDoor
