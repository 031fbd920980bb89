/-The program's reading of tokens: choices, and terms behind a sign. The program's reading of tokens: choices, and terms behind a sign. The program's reading of tokens: a part is another one. -/
import Derived.Test.YtadpjkehflokcaaGreatDoorGParseC
namespace Go.Proofs.YtadpjkehflokcaaGreatDoor
open Go.RowKit
set_option linter.unusedVariables false
set_option linter.unusedSimpArgs false
namespace Parse
open Token (Tok tel ToksAt)
open Term (Tm Hd TmIs Kids ret_bool ret_i64 Reads veil Flat tcells)
open Words (str_no str_yes NumLaid)
open Chars (isin BytesAt)
theorem tl_wGet : wGet.toList = [33] := by decide +kernel
theorem tl_wRef : wRef.toList = [114, 101, 102] := by decide +kernel
theorem tl_wFst : wFst.toList = [102, 115, 116] := by decide +kernel
theorem tl_wSnd : wSnd.toList = [115, 110, 100] := by decide +kernel
theorem tl_wRaise : wRaise.toList = [114, 97, 105, 115, 101] := by decide +kernel
theorem tl_wOpen : wOpen.toList = [40] := by decide +kernel
theorem tl_wLet : wLet.toList = [108, 101, 116] := by decide +kernel
theorem tl_wLetrec : wLetrec.toList = [108, 101, 116, 114, 101, 99] := by decide +kernel
theorem tl_wFn : wFn.toList = [102, 110] := by decide +kernel
theorem tl_wIf : wIf.toList = [105, 102] := by decide +kernel
theorem tl_wTry : wTry.toList = [116, 114, 121] := by decide +kernel
set_option maxRecDepth 10000 in
set_option maxHeartbeats 12800000 in
theorem choice_walk (m : Nat) (hE : ∀ m', m' ≤ m → PE 26 exprF m') (w : World) (P g n c i : Nat) (ts : List Tok) (q : St × List Tm) (h : PR w P g n c i ts) (hL : Lay w P) (ht : textOf ts i = wIf) (hq : partsF ts m [e0, wThen, wElse] ⟨i + 1, false⟩ = some q) :
    Calls Tryz.prog 55 #[.pointer (some ⟨P, 0, none⟩)] w (PartEnd P g n c ts (q.1, .node ⟨14, 0, plA ts i, 0, ⟨#[]⟩, ⟨#[]⟩, ⟨#[]⟩⟩ q.2) w) := by
  have hne := text_not_end (x := wIf) (by simp [wordsL]) ht
  have hbox : ∀ O : Obj, Below w.heap.size w (w.alloc O) := fun O => ((Below.refl _ _).alloc (Nat.le_refl _) O)
  have hhd := fun O => head_walk (w.alloc O) P g n c i ts 14 (h.below (hbox O)) hne
  have hold := h.old
  have hpl := h.pl
  obtain ⟨m0, r0, m1, r1, m2, r2, hm0, hm1, hm2, h0, h1, h2, rfl⟩ := parts3 ts ne_e0.2.2.2.1 ne_e0.2.2.2.2 hq
  have HHD := Lib.hid hhd; have HOLD := Lib.hid hold; have HL := Lib.hid hL; have HE := Lib.hid hE; have HPL := Lib.hid hpl; have HR0 := Lib.hid h0; have HR1 := Lib.hid h1; have HR2 := Lib.hid h2
  unfold headV at HHD
  clear hhd h hbox hold hL hE hq hpl hne ht h0 h1 h2
  go_enter Tryz.func55, Tryz.ntmps55
  go_wp2_with (fail)
  refine (HHD.out _).mono ?_
  rintro e w1 ⟨rfl, ho, hp⟩
  obtain ⟨h3, h4⟩ := box_off ho HOLD.out.1
  have HR := Lib.hid h3; have HO := Lib.hid h4; have HP := Lib.hid hp; have HSZ := Lib.hid (lt_of_block h3)
  clear ho hp h3 h4
  go_wp2_with (fail)
  refine (HE.out m0 hm0 _ P g n c (i + 1) ts r0 HP.out (HL.out.off HO.out) HR0.out).mono ?_
  rintro e y0 (⟨hbd, ⟨h0, p0, l0, d0, rfl, hT⟩, ho4, hp4⟩ | ⟨hbd, rfl, ho4⟩)
  rotate_left
  · have ho5 := HO.out.trans ho4
    have HH := Lib.hid (And.intro ((then_bad ts (by rw [then_bad ts hbd HR1.out]; exact hbd) HR2.out).trans ((then_bad ts hbd HR1.out).trans (bad_eq hbd))) ho5)
    unfold thrown strayV
    clear ho5 ho4 hbd
    go_wp2_with (fail)
    exact ⟨rfl, part_thrown HH.out.1 HH.out.2⟩
  have HOn := Lib.hid (HO.out.trans ho4); have HRn := Lib.hid (box_later HR.out ho4 (by have := HOLD.out.1; omega)); have HTM0 := Lib.hid hT; have HBD0 := Lib.hid hbd; have HPn := Lib.hid hp4; have HSZ0 := HSZ; have HSn := Lib.hid (Nat.lt_of_lt_of_le HSZ.out ho4.size); have HOK0 := Lib.hid ho4
  clear HO HP HR hT hbd hp4 ho4 HSZ
  have HO := HOn; have HP := HPn; have HR := HRn; have HSZ := HSn
  clear HOn HPn HRn HSn
  go_wp2_with (fail)
  refine (behind_walk m1 (HE.out m1 hm1) _ P g n c r0.1.i ts wThen r1 HP.out (HL.out.off HO.out) (by simp [wordsL]) (by have := HR1.out; rw [good_eq HBD0.out] at this; exact this)).mono ?_
  rintro e y1 (⟨hbd, ⟨h1, p1, l1, d1, rfl, hT⟩, ho4, hp4⟩ | ⟨hbd, rfl, ho4⟩)
  rotate_left
  · have ho5 := HO.out.trans ho4
    have HH := Lib.hid (And.intro ((then_bad ts hbd HR2.out).trans (bad_eq hbd)) ho5)
    unfold thrown strayV
    clear ho5 ho4 hbd
    go_wp2_with (fail)
    exact ⟨rfl, part_thrown HH.out.1 HH.out.2⟩
  have HOn := Lib.hid (HO.out.trans ho4); have HRn := Lib.hid (box_later HR.out ho4 (by have := HOLD.out.1; omega)); have HTM1 := Lib.hid hT; have HBD1 := Lib.hid hbd; have HPn := Lib.hid hp4; have HSZ1 := HSZ; have HSn := Lib.hid (Nat.lt_of_lt_of_le HSZ.out ho4.size); have HOK1 := Lib.hid ho4
  clear HO HP HR hT hbd hp4 ho4 HSZ
  have HO := HOn; have HP := HPn; have HR := HRn; have HSZ := HSn
  clear HOn HPn HRn HSn
  go_wp2_with (fail)
  refine (behind_walk m2 (HE.out m2 hm2) _ P g n c r1.1.i ts wElse r2 HP.out (HL.out.off HO.out) (by simp [wordsL]) (by have := HR2.out; rw [good_eq HBD1.out] at this; exact this)).mono ?_
  rintro e y2 (⟨hbd, ⟨h2, p2, l2, d2, rfl, hT⟩, ho4, hp4⟩ | ⟨hbd, rfl, ho4⟩)
  rotate_left
  · have ho5 := HO.out.trans ho4
    have HH := Lib.hid (And.intro (bad_eq hbd) ho5)
    unfold thrown strayV
    clear ho5 ho4 hbd
    go_wp2_with (fail)
    exact ⟨rfl, part_thrown HH.out.1 HH.out.2⟩
  have HOn := Lib.hid (HO.out.trans ho4); have HRn := Lib.hid (box_later HR.out ho4 (by have := HOLD.out.1; omega)); have HTM2 := Lib.hid hT; have HBD2 := Lib.hid hbd; have HPn := Lib.hid hp4; have HSZ2 := HSZ; have HSn := Lib.hid (Nat.lt_of_lt_of_le HSZ.out ho4.size); have HOK2 := Lib.hid ho4
  clear HO HP HR hT hbd hp4 ho4 HSZ
  have HO := HOn; have HP := HPn; have HR := HRn; have HSZ := HSn
  clear HOn HPn HRn HSn
  go_wp2_with (fail)
  refine (node_walk _ 14 0 (tel ts i).a 0 ⟨#[]⟩ ⟨#[]⟩ ⟨#[]⟩ (some ⟨y2.heap.size, 0, none⟩) 3 3).mono ?_
  rintro e z ⟨rfl, hbz⟩
  obtain ⟨hrow, hbz2⟩ := one_box hbz
  have hr := (hbz2.block _ HSZ.out).trans HR.out
  obtain ⟨⟨r0', r1', r2', r3', r4', r5', r6', r7'⟩, f0, f1, f2, f3, f4, f5, f6, f7⟩ := cells8' hr
  have rl := lt_of_block hr
  have HROW := Lib.hid hrow; have HBZ := Lib.hid hbz2
  clear hrow hbz hbz2 hr
  go_wp2_with (fail)
  refine bodyPost_ret (v := .agg #[.int .u8 14, .int .u8 0, .int .i64 (tel ts i).a, .int .i64 0, .string ⟨#[]⟩, .string ⟨#[]⟩, .string ⟨#[]⟩, .slice (some ⟨y2.heap.size, 0, none⟩) 3 3]) (by simp [results, Tryz.results55, go_sem, r0', r1', r2', r3', r4', r5', r6', r7']) rfl ?_
  refine node_end (xs := tcells h0 p0 l0 d0 ++ tcells h1 p1 l1 d1 ++ tcells h2 p2 l2 d2) (kids := [r0.2, r1.2, r2.2]) HBD2.out rfl HROW.out HSZ.out (((Flat.one (kid_up HTM0.out HSZ0.out HOLD.out.1 (HOK1.out.trans (HOK2.out.trans (Off.of_below HBZ.out))))).append (Flat.one (kid_up HTM1.out HSZ1.out HOLD.out.1 (HOK2.out.trans (Off.of_below HBZ.out))))).append (Flat.one (kid_up HTM2.out HSZ2.out HOLD.out.1 (Off.of_below HBZ.out)))) rfl (by unfold maxLen; omega) (hd_any (by omega) HPL.out e0_small e0_small e0_small) (HO.out.trans (Off.of_below HBZ.out)) (HP.out.below HBZ.out) HOLD.out (fun k hk => set8_other _ _ _ _ _ _ _ _ _ _ _ hk) (Below.set8 w _ _ (Nat.le_refl _) _ _ _ _ _ _ _ _)
end Parse
end Go.Proofs.YtadpjkehflokcaaGreatDoor
namespace Go.Proofs.YtadpjkehflokcaaGreatDoor
open Go.RowKit
set_option linter.unusedVariables false
set_option linter.unusedSimpArgs false
namespace Parse
open Token (Tok tel ToksAt)
open Term (Tm Hd TmIs Kids ret_bool ret_i64 Reads veil Flat tcells)
open Words (str_no str_yes NumLaid)
open Chars (isin BytesAt)
set_option maxRecDepth 10000 in
set_option maxHeartbeats 12800000 in
theorem unary_wGet (m : Nat) (hU : ∀ m', m' ≤ m → PE 156 unaryF m') (w : World) (P g n c i : Nat) (ts : List Tok) (q : St × Tm) (h : PR w P g n c i ts) (hL : Lay w P) (ht : textOf ts i = wGet) (hq : unaryF ts m ⟨i + 1, false⟩ = some q) :
    Calls Tryz.prog 156 #[.pointer (some ⟨P, 0, none⟩)] w (PartEnd P g n c ts (q.1, node 7 (plA ts i) [q.2]) w) := by
  have hx : wGet ∈ wordsL := by simp [wordsL]
  have hs : (tel ts i).s = wGet := (h.good.is_text (by rw [h.row.len]; exact h.lt) hx).2 ht
  have hne := text_not_end (x := wGet) (by simp [wordsL]) ht
  have hbox : ∀ O : Obj, Below w.heap.size w (w.alloc O) := fun O => ((Below.refl _ _).alloc (Nat.le_refl _) O)
  have hnx := fun O => next_walk (w.alloc O) P g n c i ts (h.below (hbox O))
  have hold := h.old
  have hpl := h.pl
  have hhd := fun W (hb : Below w.heap.size w W) => head_walk W P g n c i ts 7 (h.below hb) hne
  have HNX := Lib.hid hnx; have HHD := Lib.hid hhd; have HOLD := Lib.hid hold; have HL := Lib.hid hL; have HU := Lib.hid hU; have HPL := Lib.hid hpl; have HQ := Lib.hid hq; have HBOX := Lib.hid hbox
  unfold headV at HHD
  unfold tokV at HNX
  rw [hs] at HNX
  have hf := fieldTok1
  clear hnx hhd h hbox hold hL hU hq hpl hne ht hx hs
  have e0 : (wGet.toList == [33]) = true := by rw [tl_wGet]; decide
  go_enter Tryz.func156, Tryz.ntmps156
  go_wp2_with (fail)
  refine (HNX.out _).mono ?_
  rintro e w0 ⟨rfl, hb0⟩
  obtain ⟨h3, h4⟩ := one_box hb0
  have HR0 := Lib.hid h3; have HB0 := Lib.hid h4
  clear hb0 h3 h4
  go_wp2_with (fail)
  refine (HHD.out _ HB0.out).mono ?_
  rintro e w1 ⟨rfl, ho, hp⟩
  have HR := Lib.hid (box_later HR0.out ho (by have := HOLD.out.1; omega)); have HO := Lib.hid ((Off.of_below (P := P) HB0.out).trans ho); have HP := Lib.hid hp
  have HSZ := Lib.hid (lt_of_block HR.out)
  clear ho hp HR0 HB0
  go_wp2_with (fail)
  refine (HU.out m (Nat.le_refl _) _ P g n c (i + 1) ts q HP.out (HL.out.off HO.out) HQ.out).mono ?_
  rintro e y0 (⟨hbd, ⟨h0, p0, l0, d0, rfl, hT⟩, ho4, hp4⟩ | ⟨hbd, rfl, ho4⟩)
  rotate_left
  · have ho5 := HO.out.trans ho4
    have HH := Lib.hid (And.intro (bad_eq hbd) ho5)
    unfold thrown strayV
    clear ho5 ho4 hbd
    go_wp2_with (fail)
    exact ⟨rfl, part_thrown HH.out.1 HH.out.2⟩
  have HOn := Lib.hid (HO.out.trans ho4); have HRn := Lib.hid (box_later HR.out ho4 (by have := HOLD.out.1; omega)); have HTM0 := Lib.hid hT; have HBD0 := Lib.hid hbd; have HPn := Lib.hid hp4; have HSZ0 := HSZ; have HSn := Lib.hid (Nat.lt_of_lt_of_le HSZ.out ho4.size); have HOK0 := Lib.hid ho4
  clear HO HP HR hT hbd hp4 ho4 HSZ
  have HO := HOn; have HP := HPn; have HR := HRn; have HSZ := HSn
  clear HOn HPn HRn HSn
  go_wp2_with (fail)
  refine (node_walk _ 7 0 (tel ts i).a 0 ⟨#[]⟩ ⟨#[]⟩ ⟨#[]⟩ (some ⟨y0.heap.size, 0, none⟩) 1 1).mono ?_
  rintro e z ⟨rfl, hbz⟩
  obtain ⟨hrow, hbz2⟩ := one_box hbz
  have hr := (hbz2.block _ HSZ.out).trans HR.out
  obtain ⟨⟨r0', r1', r2', r3', r4', r5', r6', r7'⟩, f0, f1, f2, f3, f4, f5, f6, f7⟩ := cells8' hr
  have rl := lt_of_block hr
  have HROW := Lib.hid hrow; have HBZ := Lib.hid hbz2
  clear hrow hbz hbz2 hr
  go_wp2_with (fail)
  refine bodyPost_ret (v := .agg #[.int .u8 7, .int .u8 0, .int .i64 (tel ts i).a, .int .i64 0, .string ⟨#[]⟩, .string ⟨#[]⟩, .string ⟨#[]⟩, .slice (some ⟨y0.heap.size, 0, none⟩) 1 1]) (by simp [results, Tryz.results156, go_sem, r0', r1', r2', r3', r4', r5', r6', r7']) rfl ?_
  refine node_end (xs := tcells h0 p0 l0 d0) (kids := [q.2]) HBD0.out rfl HROW.out HSZ.out (Flat.one (kid_up HTM0.out HSZ0.out HOLD.out.1 (Off.of_below HBZ.out))) rfl (by unfold maxLen; omega) (hd_any (by omega) HPL.out e0_small e0_small e0_small) (HO.out.trans (Off.of_below HBZ.out)) (HP.out.below HBZ.out) HOLD.out (fun k hk => set8_other _ _ _ _ _ _ _ _ _ _ _ hk) (Below.set8 w _ _ (Nat.le_refl _) _ _ _ _ _ _ _ _)
set_option maxRecDepth 10000 in
set_option maxHeartbeats 12800000 in
theorem unary_wRef (m : Nat) (hU : ∀ m', m' ≤ m → PE 156 unaryF m') (w : World) (P g n c i : Nat) (ts : List Tok) (q : St × Tm) (h : PR w P g n c i ts) (hL : Lay w P) (ht : textOf ts i = wRef) (hq : unaryF ts m ⟨i + 1, false⟩ = some q) :
    Calls Tryz.prog 156 #[.pointer (some ⟨P, 0, none⟩)] w (PartEnd P g n c ts (q.1, node 6 (plA ts i) [q.2]) w) := by
  have hx : wRef ∈ wordsL := by simp [wordsL]
  have hs : (tel ts i).s = wRef := (h.good.is_text (by rw [h.row.len]; exact h.lt) hx).2 ht
  have hne := text_not_end (x := wRef) (by simp [wordsL]) ht
  have hbox : ∀ O : Obj, Below w.heap.size w (w.alloc O) := fun O => ((Below.refl _ _).alloc (Nat.le_refl _) O)
  have hnx := fun O => next_walk (w.alloc O) P g n c i ts (h.below (hbox O))
  have hold := h.old
  have hpl := h.pl
  have hhd := fun W (hb : Below w.heap.size w W) => head_walk W P g n c i ts 6 (h.below hb) hne
  have HNX := Lib.hid hnx; have HHD := Lib.hid hhd; have HOLD := Lib.hid hold; have HL := Lib.hid hL; have HU := Lib.hid hU; have HPL := Lib.hid hpl; have HQ := Lib.hid hq; have HBOX := Lib.hid hbox
  unfold headV at HHD
  unfold tokV at HNX
  rw [hs] at HNX
  have hf := fieldTok1
  clear hnx hhd h hbox hold hL hU hq hpl hne ht hx hs
  have e0 : (wRef.toList == [33]) = false := by rw [tl_wRef]; decide
  have e1 : (wRef.toList == [114, 101, 102]) = true := by rw [tl_wRef]; decide
  go_enter Tryz.func156, Tryz.ntmps156
  go_wp2_with (fail)
  refine (HNX.out _).mono ?_
  rintro e w0 ⟨rfl, hb0⟩
  obtain ⟨h3, h4⟩ := one_box hb0
  have HR0 := Lib.hid h3; have HB0 := Lib.hid h4
  clear hb0 h3 h4
  go_wp2_with (fail)
  refine (HHD.out _ HB0.out).mono ?_
  rintro e w1 ⟨rfl, ho, hp⟩
  have HR := Lib.hid (box_later HR0.out ho (by have := HOLD.out.1; omega)); have HO := Lib.hid ((Off.of_below (P := P) HB0.out).trans ho); have HP := Lib.hid hp
  have HSZ := Lib.hid (lt_of_block HR.out)
  clear ho hp HR0 HB0
  go_wp2_with (fail)
  refine (HU.out m (Nat.le_refl _) _ P g n c (i + 1) ts q HP.out (HL.out.off HO.out) HQ.out).mono ?_
  rintro e y0 (⟨hbd, ⟨h0, p0, l0, d0, rfl, hT⟩, ho4, hp4⟩ | ⟨hbd, rfl, ho4⟩)
  rotate_left
  · have ho5 := HO.out.trans ho4
    have HH := Lib.hid (And.intro (bad_eq hbd) ho5)
    unfold thrown strayV
    clear ho5 ho4 hbd
    go_wp2_with (fail)
    exact ⟨rfl, part_thrown HH.out.1 HH.out.2⟩
  have HOn := Lib.hid (HO.out.trans ho4); have HRn := Lib.hid (box_later HR.out ho4 (by have := HOLD.out.1; omega)); have HTM0 := Lib.hid hT; have HBD0 := Lib.hid hbd; have HPn := Lib.hid hp4; have HSZ0 := HSZ; have HSn := Lib.hid (Nat.lt_of_lt_of_le HSZ.out ho4.size); have HOK0 := Lib.hid ho4
  clear HO HP HR hT hbd hp4 ho4 HSZ
  have HO := HOn; have HP := HPn; have HR := HRn; have HSZ := HSn
  clear HOn HPn HRn HSn
  go_wp2_with (fail)
  refine (node_walk _ 6 0 (tel ts i).a 0 ⟨#[]⟩ ⟨#[]⟩ ⟨#[]⟩ (some ⟨y0.heap.size, 0, none⟩) 1 1).mono ?_
  rintro e z ⟨rfl, hbz⟩
  obtain ⟨hrow, hbz2⟩ := one_box hbz
  have hr := (hbz2.block _ HSZ.out).trans HR.out
  obtain ⟨⟨r0', r1', r2', r3', r4', r5', r6', r7'⟩, f0, f1, f2, f3, f4, f5, f6, f7⟩ := cells8' hr
  have rl := lt_of_block hr
  have HROW := Lib.hid hrow; have HBZ := Lib.hid hbz2
  clear hrow hbz hbz2 hr
  go_wp2_with (fail)
  refine bodyPost_ret (v := .agg #[.int .u8 6, .int .u8 0, .int .i64 (tel ts i).a, .int .i64 0, .string ⟨#[]⟩, .string ⟨#[]⟩, .string ⟨#[]⟩, .slice (some ⟨y0.heap.size, 0, none⟩) 1 1]) (by simp [results, Tryz.results156, go_sem, r0', r1', r2', r3', r4', r5', r6', r7']) rfl ?_
  refine node_end (xs := tcells h0 p0 l0 d0) (kids := [q.2]) HBD0.out rfl HROW.out HSZ.out (Flat.one (kid_up HTM0.out HSZ0.out HOLD.out.1 (Off.of_below HBZ.out))) rfl (by unfold maxLen; omega) (hd_any (by omega) HPL.out e0_small e0_small e0_small) (HO.out.trans (Off.of_below HBZ.out)) (HP.out.below HBZ.out) HOLD.out (fun k hk => set8_other _ _ _ _ _ _ _ _ _ _ _ hk) (Below.set8 w _ _ (Nat.le_refl _) _ _ _ _ _ _ _ _)
set_option maxRecDepth 10000 in
set_option maxHeartbeats 12800000 in
theorem unary_wFst (m : Nat) (hU : ∀ m', m' ≤ m → PE 156 unaryF m') (w : World) (P g n c i : Nat) (ts : List Tok) (q : St × Tm) (h : PR w P g n c i ts) (hL : Lay w P) (ht : textOf ts i = wFst) (hq : unaryF ts m ⟨i + 1, false⟩ = some q) :
    Calls Tryz.prog 156 #[.pointer (some ⟨P, 0, none⟩)] w (PartEnd P g n c ts (q.1, node 4 (plA ts i) [q.2]) w) := by
  have hx : wFst ∈ wordsL := by simp [wordsL]
  have hs : (tel ts i).s = wFst := (h.good.is_text (by rw [h.row.len]; exact h.lt) hx).2 ht
  have hne := text_not_end (x := wFst) (by simp [wordsL]) ht
  have hbox : ∀ O : Obj, Below w.heap.size w (w.alloc O) := fun O => ((Below.refl _ _).alloc (Nat.le_refl _) O)
  have hnx := fun O => next_walk (w.alloc O) P g n c i ts (h.below (hbox O))
  have hold := h.old
  have hpl := h.pl
  have hhd := fun W (hb : Below w.heap.size w W) => head_walk W P g n c i ts 4 (h.below hb) hne
  have HNX := Lib.hid hnx; have HHD := Lib.hid hhd; have HOLD := Lib.hid hold; have HL := Lib.hid hL; have HU := Lib.hid hU; have HPL := Lib.hid hpl; have HQ := Lib.hid hq; have HBOX := Lib.hid hbox
  unfold headV at HHD
  unfold tokV at HNX
  rw [hs] at HNX
  have hf := fieldTok1
  clear hnx hhd h hbox hold hL hU hq hpl hne ht hx hs
  have e0 : (wFst.toList == [33]) = false := by rw [tl_wFst]; decide
  have e1 : (wFst.toList == [114, 101, 102]) = false := by rw [tl_wFst]; decide
  have e2 : (wFst.toList == [102, 115, 116]) = true := by rw [tl_wFst]; decide
  go_enter Tryz.func156, Tryz.ntmps156
  go_wp2_with (fail)
  refine (HNX.out _).mono ?_
  rintro e w0 ⟨rfl, hb0⟩
  obtain ⟨h3, h4⟩ := one_box hb0
  have HR0 := Lib.hid h3; have HB0 := Lib.hid h4
  clear hb0 h3 h4
  go_wp2_with (fail)
  refine (HHD.out _ HB0.out).mono ?_
  rintro e w1 ⟨rfl, ho, hp⟩
  have HR := Lib.hid (box_later HR0.out ho (by have := HOLD.out.1; omega)); have HO := Lib.hid ((Off.of_below (P := P) HB0.out).trans ho); have HP := Lib.hid hp
  have HSZ := Lib.hid (lt_of_block HR.out)
  clear ho hp HR0 HB0
  go_wp2_with (fail)
  refine (HU.out m (Nat.le_refl _) _ P g n c (i + 1) ts q HP.out (HL.out.off HO.out) HQ.out).mono ?_
  rintro e y0 (⟨hbd, ⟨h0, p0, l0, d0, rfl, hT⟩, ho4, hp4⟩ | ⟨hbd, rfl, ho4⟩)
  rotate_left
  · have ho5 := HO.out.trans ho4
    have HH := Lib.hid (And.intro (bad_eq hbd) ho5)
    unfold thrown strayV
    clear ho5 ho4 hbd
    go_wp2_with (fail)
    exact ⟨rfl, part_thrown HH.out.1 HH.out.2⟩
  have HOn := Lib.hid (HO.out.trans ho4); have HRn := Lib.hid (box_later HR.out ho4 (by have := HOLD.out.1; omega)); have HTM0 := Lib.hid hT; have HBD0 := Lib.hid hbd; have HPn := Lib.hid hp4; have HSZ0 := HSZ; have HSn := Lib.hid (Nat.lt_of_lt_of_le HSZ.out ho4.size); have HOK0 := Lib.hid ho4
  clear HO HP HR hT hbd hp4 ho4 HSZ
  have HO := HOn; have HP := HPn; have HR := HRn; have HSZ := HSn
  clear HOn HPn HRn HSn
  go_wp2_with (fail)
  refine (node_walk _ 4 0 (tel ts i).a 0 ⟨#[]⟩ ⟨#[]⟩ ⟨#[]⟩ (some ⟨y0.heap.size, 0, none⟩) 1 1).mono ?_
  rintro e z ⟨rfl, hbz⟩
  obtain ⟨hrow, hbz2⟩ := one_box hbz
  have hr := (hbz2.block _ HSZ.out).trans HR.out
  obtain ⟨⟨r0', r1', r2', r3', r4', r5', r6', r7'⟩, f0, f1, f2, f3, f4, f5, f6, f7⟩ := cells8' hr
  have rl := lt_of_block hr
  have HROW := Lib.hid hrow; have HBZ := Lib.hid hbz2
  clear hrow hbz hbz2 hr
  go_wp2_with (fail)
  refine bodyPost_ret (v := .agg #[.int .u8 4, .int .u8 0, .int .i64 (tel ts i).a, .int .i64 0, .string ⟨#[]⟩, .string ⟨#[]⟩, .string ⟨#[]⟩, .slice (some ⟨y0.heap.size, 0, none⟩) 1 1]) (by simp [results, Tryz.results156, go_sem, r0', r1', r2', r3', r4', r5', r6', r7']) rfl ?_
  refine node_end (xs := tcells h0 p0 l0 d0) (kids := [q.2]) HBD0.out rfl HROW.out HSZ.out (Flat.one (kid_up HTM0.out HSZ0.out HOLD.out.1 (Off.of_below HBZ.out))) rfl (by unfold maxLen; omega) (hd_any (by omega) HPL.out e0_small e0_small e0_small) (HO.out.trans (Off.of_below HBZ.out)) (HP.out.below HBZ.out) HOLD.out (fun k hk => set8_other _ _ _ _ _ _ _ _ _ _ _ hk) (Below.set8 w _ _ (Nat.le_refl _) _ _ _ _ _ _ _ _)
set_option maxRecDepth 10000 in
set_option maxHeartbeats 12800000 in
theorem unary_wSnd (m : Nat) (hU : ∀ m', m' ≤ m → PE 156 unaryF m') (w : World) (P g n c i : Nat) (ts : List Tok) (q : St × Tm) (h : PR w P g n c i ts) (hL : Lay w P) (ht : textOf ts i = wSnd) (hq : unaryF ts m ⟨i + 1, false⟩ = some q) :
    Calls Tryz.prog 156 #[.pointer (some ⟨P, 0, none⟩)] w (PartEnd P g n c ts (q.1, node 5 (plA ts i) [q.2]) w) := by
  have hx : wSnd ∈ wordsL := by simp [wordsL]
  have hs : (tel ts i).s = wSnd := (h.good.is_text (by rw [h.row.len]; exact h.lt) hx).2 ht
  have hne := text_not_end (x := wSnd) (by simp [wordsL]) ht
  have hbox : ∀ O : Obj, Below w.heap.size w (w.alloc O) := fun O => ((Below.refl _ _).alloc (Nat.le_refl _) O)
  have hnx := fun O => next_walk (w.alloc O) P g n c i ts (h.below (hbox O))
  have hold := h.old
  have hpl := h.pl
  have hhd := fun W (hb : Below w.heap.size w W) => head_walk W P g n c i ts 5 (h.below hb) hne
  have HNX := Lib.hid hnx; have HHD := Lib.hid hhd; have HOLD := Lib.hid hold; have HL := Lib.hid hL; have HU := Lib.hid hU; have HPL := Lib.hid hpl; have HQ := Lib.hid hq; have HBOX := Lib.hid hbox
  unfold headV at HHD
  unfold tokV at HNX
  rw [hs] at HNX
  have hf := fieldTok1
  clear hnx hhd h hbox hold hL hU hq hpl hne ht hx hs
  have e0 : (wSnd.toList == [33]) = false := by rw [tl_wSnd]; decide
  have e1 : (wSnd.toList == [114, 101, 102]) = false := by rw [tl_wSnd]; decide
  have e2 : (wSnd.toList == [102, 115, 116]) = false := by rw [tl_wSnd]; decide
  have e3 : (wSnd.toList == [115, 110, 100]) = true := by rw [tl_wSnd]; decide
  go_enter Tryz.func156, Tryz.ntmps156
  go_wp2_with (fail)
  refine (HNX.out _).mono ?_
  rintro e w0 ⟨rfl, hb0⟩
  obtain ⟨h3, h4⟩ := one_box hb0
  have HR0 := Lib.hid h3; have HB0 := Lib.hid h4
  clear hb0 h3 h4
  go_wp2_with (fail)
  refine (HHD.out _ HB0.out).mono ?_
  rintro e w1 ⟨rfl, ho, hp⟩
  have HR := Lib.hid (box_later HR0.out ho (by have := HOLD.out.1; omega)); have HO := Lib.hid ((Off.of_below (P := P) HB0.out).trans ho); have HP := Lib.hid hp
  have HSZ := Lib.hid (lt_of_block HR.out)
  clear ho hp HR0 HB0
  go_wp2_with (fail)
  refine (HU.out m (Nat.le_refl _) _ P g n c (i + 1) ts q HP.out (HL.out.off HO.out) HQ.out).mono ?_
  rintro e y0 (⟨hbd, ⟨h0, p0, l0, d0, rfl, hT⟩, ho4, hp4⟩ | ⟨hbd, rfl, ho4⟩)
  rotate_left
  · have ho5 := HO.out.trans ho4
    have HH := Lib.hid (And.intro (bad_eq hbd) ho5)
    unfold thrown strayV
    clear ho5 ho4 hbd
    go_wp2_with (fail)
    exact ⟨rfl, part_thrown HH.out.1 HH.out.2⟩
  have HOn := Lib.hid (HO.out.trans ho4); have HRn := Lib.hid (box_later HR.out ho4 (by have := HOLD.out.1; omega)); have HTM0 := Lib.hid hT; have HBD0 := Lib.hid hbd; have HPn := Lib.hid hp4; have HSZ0 := HSZ; have HSn := Lib.hid (Nat.lt_of_lt_of_le HSZ.out ho4.size); have HOK0 := Lib.hid ho4
  clear HO HP HR hT hbd hp4 ho4 HSZ
  have HO := HOn; have HP := HPn; have HR := HRn; have HSZ := HSn
  clear HOn HPn HRn HSn
  go_wp2_with (fail)
  refine (node_walk _ 5 0 (tel ts i).a 0 ⟨#[]⟩ ⟨#[]⟩ ⟨#[]⟩ (some ⟨y0.heap.size, 0, none⟩) 1 1).mono ?_
  rintro e z ⟨rfl, hbz⟩
  obtain ⟨hrow, hbz2⟩ := one_box hbz
  have hr := (hbz2.block _ HSZ.out).trans HR.out
  obtain ⟨⟨r0', r1', r2', r3', r4', r5', r6', r7'⟩, f0, f1, f2, f3, f4, f5, f6, f7⟩ := cells8' hr
  have rl := lt_of_block hr
  have HROW := Lib.hid hrow; have HBZ := Lib.hid hbz2
  clear hrow hbz hbz2 hr
  go_wp2_with (fail)
  refine bodyPost_ret (v := .agg #[.int .u8 5, .int .u8 0, .int .i64 (tel ts i).a, .int .i64 0, .string ⟨#[]⟩, .string ⟨#[]⟩, .string ⟨#[]⟩, .slice (some ⟨y0.heap.size, 0, none⟩) 1 1]) (by simp [results, Tryz.results156, go_sem, r0', r1', r2', r3', r4', r5', r6', r7']) rfl ?_
  refine node_end (xs := tcells h0 p0 l0 d0) (kids := [q.2]) HBD0.out rfl HROW.out HSZ.out (Flat.one (kid_up HTM0.out HSZ0.out HOLD.out.1 (Off.of_below HBZ.out))) rfl (by unfold maxLen; omega) (hd_any (by omega) HPL.out e0_small e0_small e0_small) (HO.out.trans (Off.of_below HBZ.out)) (HP.out.below HBZ.out) HOLD.out (fun k hk => set8_other _ _ _ _ _ _ _ _ _ _ _ hk) (Below.set8 w _ _ (Nat.le_refl _) _ _ _ _ _ _ _ _)
end Parse
end Go.Proofs.YtadpjkehflokcaaGreatDoor
namespace Go.Proofs.YtadpjkehflokcaaGreatDoor
open Go.RowKit
set_option linter.unusedVariables false
set_option linter.unusedSimpArgs false
namespace Parse
open Token (Tok tel ToksAt)
open Term (Tm Hd TmIs Kids ret_bool ret_i64 Reads veil Flat tcells)
open Words (str_no str_yes NumLaid)
open Chars (isin BytesAt)
set_option maxRecDepth 10000 in
set_option maxHeartbeats 6400000 in
theorem unary_raise (w : World) (P g n c i : Nat) (ts : List Tok) (r : St × Tm) (h : PR w P g n c i ts) (e0 : ((tel ts i).s.toList == [33]) = false) (e1 : ((tel ts i).s.toList == [114, 101, 102]) = false) (e2 : ((tel ts i).s.toList == [102, 115, 116]) = false) (e3 : ((tel ts i).s.toList == [115, 110, 100]) = false) (e4 : ((tel ts i).s.toList == [114, 97, 105, 115, 101]) = true) (hc : ∀ W, Below w.heap.size w W → Calls Tryz.prog 167 #[.pointer (some ⟨P, 0, none⟩)] W (PartEnd P g n c ts r W)) :
    Calls Tryz.prog 156 #[.pointer (some ⟨P, 0, none⟩)] w (PartEnd P g n c ts r w) := by
  have hbox : ∀ O : Obj, Below w.heap.size w (w.alloc O) := fun O => ((Below.refl _ _).alloc (Nat.le_refl _) O)
  have hnx := fun O => next_walk (w.alloc O) P g n c i ts (h.below (hbox O))
  have hold := h.old
  have HNX := Lib.hid hnx; have HOLD := Lib.hid hold; have HC := Lib.hid hc
  unfold tokV at HNX
  have hf := fieldTok1
  clear hnx h hbox hold hc
  go_enter Tryz.func156, Tryz.ntmps156
  go_wp2_with (fail)
  refine (HNX.out _).mono ?_
  rintro e w1 ⟨rfl, hb0⟩
  obtain ⟨h3, h4⟩ := one_box hb0
  have HR0 := Lib.hid h3; have HB0 := Lib.hid h4; have HSZ := Lib.hid (lt_of_block h3)
  clear hb0 h3 h4
  go_wp2_with (fail)
  refine (HC.out _ HB0.out).mono ?_
  rintro e w2 (⟨hb, ⟨h, p, l, d, rfl, hT⟩, ho2, hp2⟩ | ⟨hb, rfl, ho2⟩)
  · have hr := box_later HR0.out ho2 (by have := HOLD.out.1; omega)
    obtain ⟨⟨r0, r1, r2, r3, r4, r5, r6, r7⟩, f0, f1, f2, f3, f4, f5, f6, f7⟩ := cells8' hr
    have rl2 := lt_of_block hr
    have H := Lib.hid (And.intro hb (And.intro hT (And.intro ho2 hp2)))
    clear hb hT ho2 hp2 hr
    go_wp2_with (fail)
    refine bodyPost_ret (v := .agg #[.int .u8 h.k, .int .u8 h.op, .int .i64 h.pl, .int .i64 h.n, .string h.name, .string h.arg, .string h.exn, .slice p l d]) (by simp [results, Tryz.results156, go_sem, r0, r1, r2, r3, r4, r5, r6, r7]) rfl
      (part_pass H.out.1 H.out.2.1 H.out.2.2.2 ((Off.of_below HB0.out).trans H.out.2.2.1) HB0.out.size HSZ.out HOLD.out (fun k hk => set8_other _ _ _ _ _ _ _ _ _ _ _ hk) (Below.set8 w _ _ (Nat.le_refl _) _ _ _ _ _ _ _ _))
  · unfold thrown strayV
    have H := Lib.hid (And.intro hb ho2)
    clear hb ho2
    go_wp2_with (fail)
    exact ⟨rfl, part_thrown (bad_eq H.out.1) ((Off.of_below HB0.out).trans H.out.2)⟩
set_option maxRecDepth 10000 in
set_option maxHeartbeats 6400000 in
theorem unary_open (w : World) (P g n c i : Nat) (ts : List Tok) (r : St × Tm) (h : PR w P g n c i ts) (e0 : ((tel ts i).s.toList == [33]) = false) (e1 : ((tel ts i).s.toList == [114, 101, 102]) = false) (e2 : ((tel ts i).s.toList == [102, 115, 116]) = false) (e3 : ((tel ts i).s.toList == [115, 110, 100]) = false) (e4 : ((tel ts i).s.toList == [114, 97, 105, 115, 101]) = false) (e5 : ((tel ts i).s.toList == [40]) = true) (hc : ∀ W, Below w.heap.size w W → Calls Tryz.prog 168 #[.pointer (some ⟨P, 0, none⟩)] W (PartEnd P g n c ts r W)) :
    Calls Tryz.prog 156 #[.pointer (some ⟨P, 0, none⟩)] w (PartEnd P g n c ts r w) := by
  have hbox : ∀ O : Obj, Below w.heap.size w (w.alloc O) := fun O => ((Below.refl _ _).alloc (Nat.le_refl _) O)
  have hnx := fun O => next_walk (w.alloc O) P g n c i ts (h.below (hbox O))
  have hold := h.old
  have HNX := Lib.hid hnx; have HOLD := Lib.hid hold; have HC := Lib.hid hc
  unfold tokV at HNX
  have hf := fieldTok1
  clear hnx h hbox hold hc
  go_enter Tryz.func156, Tryz.ntmps156
  go_wp2_with (fail)
  refine (HNX.out _).mono ?_
  rintro e w1 ⟨rfl, hb0⟩
  obtain ⟨h3, h4⟩ := one_box hb0
  have HR0 := Lib.hid h3; have HB0 := Lib.hid h4; have HSZ := Lib.hid (lt_of_block h3)
  clear hb0 h3 h4
  go_wp2_with (fail)
  refine (HC.out _ HB0.out).mono ?_
  rintro e w2 (⟨hb, ⟨h, p, l, d, rfl, hT⟩, ho2, hp2⟩ | ⟨hb, rfl, ho2⟩)
  · have hr := box_later HR0.out ho2 (by have := HOLD.out.1; omega)
    obtain ⟨⟨r0, r1, r2, r3, r4, r5, r6, r7⟩, f0, f1, f2, f3, f4, f5, f6, f7⟩ := cells8' hr
    have rl2 := lt_of_block hr
    have H := Lib.hid (And.intro hb (And.intro hT (And.intro ho2 hp2)))
    clear hb hT ho2 hp2 hr
    go_wp2_with (fail)
    refine bodyPost_ret (v := .agg #[.int .u8 h.k, .int .u8 h.op, .int .i64 h.pl, .int .i64 h.n, .string h.name, .string h.arg, .string h.exn, .slice p l d]) (by simp [results, Tryz.results156, go_sem, r0, r1, r2, r3, r4, r5, r6, r7]) rfl
      (part_pass H.out.1 H.out.2.1 H.out.2.2.2 ((Off.of_below HB0.out).trans H.out.2.2.1) HB0.out.size HSZ.out HOLD.out (fun k hk => set8_other _ _ _ _ _ _ _ _ _ _ _ hk) (Below.set8 w _ _ (Nat.le_refl _) _ _ _ _ _ _ _ _))
  · unfold thrown strayV
    have H := Lib.hid (And.intro hb ho2)
    clear hb ho2
    go_wp2_with (fail)
    exact ⟨rfl, part_thrown (bad_eq H.out.1) ((Off.of_below HB0.out).trans H.out.2)⟩
set_option maxRecDepth 10000 in
set_option maxHeartbeats 6400000 in
theorem unary_leaf (w : World) (P g n c i : Nat) (ts : List Tok) (r : St × Tm) (h : PR w P g n c i ts) (e0 : ((tel ts i).s.toList == [33]) = false) (e1 : ((tel ts i).s.toList == [114, 101, 102]) = false) (e2 : ((tel ts i).s.toList == [102, 115, 116]) = false) (e3 : ((tel ts i).s.toList == [115, 110, 100]) = false) (e4 : ((tel ts i).s.toList == [114, 97, 105, 115, 101]) = false) (e5 : ((tel ts i).s.toList == [40]) = false) (hc : ∀ W, Below w.heap.size w W → Calls Tryz.prog 169 #[.pointer (some ⟨P, 0, none⟩)] W (PartEnd P g n c ts r W)) :
    Calls Tryz.prog 156 #[.pointer (some ⟨P, 0, none⟩)] w (PartEnd P g n c ts r w) := by
  have hbox : ∀ O : Obj, Below w.heap.size w (w.alloc O) := fun O => ((Below.refl _ _).alloc (Nat.le_refl _) O)
  have hnx := fun O => next_walk (w.alloc O) P g n c i ts (h.below (hbox O))
  have hold := h.old
  have HNX := Lib.hid hnx; have HOLD := Lib.hid hold; have HC := Lib.hid hc
  unfold tokV at HNX
  have hf := fieldTok1
  clear hnx h hbox hold hc
  go_enter Tryz.func156, Tryz.ntmps156
  go_wp2_with (fail)
  refine (HNX.out _).mono ?_
  rintro e w1 ⟨rfl, hb0⟩
  obtain ⟨h3, h4⟩ := one_box hb0
  have HR0 := Lib.hid h3; have HB0 := Lib.hid h4; have HSZ := Lib.hid (lt_of_block h3)
  clear hb0 h3 h4
  go_wp2_with (fail)
  refine (HC.out _ HB0.out).mono ?_
  rintro e w2 (⟨hb, ⟨h, p, l, d, rfl, hT⟩, ho2, hp2⟩ | ⟨hb, rfl, ho2⟩)
  · have hr := box_later HR0.out ho2 (by have := HOLD.out.1; omega)
    obtain ⟨⟨r0, r1, r2, r3, r4, r5, r6, r7⟩, f0, f1, f2, f3, f4, f5, f6, f7⟩ := cells8' hr
    have rl2 := lt_of_block hr
    have H := Lib.hid (And.intro hb (And.intro hT (And.intro ho2 hp2)))
    clear hb hT ho2 hp2 hr
    go_wp2_with (fail)
    refine bodyPost_ret (v := .agg #[.int .u8 h.k, .int .u8 h.op, .int .i64 h.pl, .int .i64 h.n, .string h.name, .string h.arg, .string h.exn, .slice p l d]) (by simp [results, Tryz.results156, go_sem, r0, r1, r2, r3, r4, r5, r6, r7]) rfl
      (part_pass H.out.1 H.out.2.1 H.out.2.2.2 ((Off.of_below HB0.out).trans H.out.2.2.1) HB0.out.size HSZ.out HOLD.out (fun k hk => set8_other _ _ _ _ _ _ _ _ _ _ _ hk) (Below.set8 w _ _ (Nat.le_refl _) _ _ _ _ _ _ _ _))
  · unfold thrown strayV
    have H := Lib.hid (And.intro hb ho2)
    clear hb ho2
    go_wp2_with (fail)
    exact ⟨rfl, part_thrown (bad_eq H.out.1) ((Off.of_below HB0.out).trans H.out.2)⟩
set_option maxRecDepth 10000 in
set_option maxHeartbeats 6400000 in
theorem expr_let (w : World) (P g n c i : Nat) (ts : List Tok) (r : St × Tm) (h : PR w P g n c i ts) (e0 : ((tel ts i).s.toList == [108, 101, 116]) = true) (hc : ∀ W, Below w.heap.size w W → Calls Tryz.prog 52 #[.pointer (some ⟨P, 0, none⟩)] W (PartEnd P g n c ts r W)) :
    Calls Tryz.prog 26 #[.pointer (some ⟨P, 0, none⟩)] w (PartEnd P g n c ts r w) := by
  have hbox : ∀ O : Obj, Below w.heap.size w (w.alloc O) := fun O => ((Below.refl _ _).alloc (Nat.le_refl _) O)
  have hnx := fun O => next_walk (w.alloc O) P g n c i ts (h.below (hbox O))
  have hold := h.old
  have HNX := Lib.hid hnx; have HOLD := Lib.hid hold; have HC := Lib.hid hc
  unfold tokV at HNX
  have hf := fieldTok1
  clear hnx h hbox hold hc
  go_enter Tryz.func26, Tryz.ntmps26
  go_wp2_with (fail)
  refine (HNX.out _).mono ?_
  rintro e w1 ⟨rfl, hb0⟩
  obtain ⟨h3, h4⟩ := one_box hb0
  have HR0 := Lib.hid h3; have HB0 := Lib.hid h4; have HSZ := Lib.hid (lt_of_block h3)
  clear hb0 h3 h4
  go_wp2_with (fail)
  refine (HC.out _ HB0.out).mono ?_
  rintro e w2 (⟨hb, ⟨h, p, l, d, rfl, hT⟩, ho2, hp2⟩ | ⟨hb, rfl, ho2⟩)
  · have hr := box_later HR0.out ho2 (by have := HOLD.out.1; omega)
    obtain ⟨⟨r0, r1, r2, r3, r4, r5, r6, r7⟩, f0, f1, f2, f3, f4, f5, f6, f7⟩ := cells8' hr
    have rl2 := lt_of_block hr
    have H := Lib.hid (And.intro hb (And.intro hT (And.intro ho2 hp2)))
    clear hb hT ho2 hp2 hr
    go_wp2_with (fail)
    refine bodyPost_ret (v := .agg #[.int .u8 h.k, .int .u8 h.op, .int .i64 h.pl, .int .i64 h.n, .string h.name, .string h.arg, .string h.exn, .slice p l d]) (by simp [results, Tryz.results26, go_sem, r0, r1, r2, r3, r4, r5, r6, r7]) rfl
      (part_pass H.out.1 H.out.2.1 H.out.2.2.2 ((Off.of_below HB0.out).trans H.out.2.2.1) HB0.out.size HSZ.out HOLD.out (fun k hk => set8_other _ _ _ _ _ _ _ _ _ _ _ hk) (Below.set8 w _ _ (Nat.le_refl _) _ _ _ _ _ _ _ _))
  · unfold thrown strayV
    have H := Lib.hid (And.intro hb ho2)
    clear hb ho2
    go_wp2_with (fail)
    exact ⟨rfl, part_thrown (bad_eq H.out.1) ((Off.of_below HB0.out).trans H.out.2)⟩
set_option maxRecDepth 10000 in
set_option maxHeartbeats 6400000 in
theorem expr_letrec (w : World) (P g n c i : Nat) (ts : List Tok) (r : St × Tm) (h : PR w P g n c i ts) (e0 : ((tel ts i).s.toList == [108, 101, 116]) = false) (e1 : ((tel ts i).s.toList == [108, 101, 116, 114, 101, 99]) = true) (hc : ∀ W, Below w.heap.size w W → Calls Tryz.prog 53 #[.pointer (some ⟨P, 0, none⟩)] W (PartEnd P g n c ts r W)) :
    Calls Tryz.prog 26 #[.pointer (some ⟨P, 0, none⟩)] w (PartEnd P g n c ts r w) := by
  have hbox : ∀ O : Obj, Below w.heap.size w (w.alloc O) := fun O => ((Below.refl _ _).alloc (Nat.le_refl _) O)
  have hnx := fun O => next_walk (w.alloc O) P g n c i ts (h.below (hbox O))
  have hold := h.old
  have HNX := Lib.hid hnx; have HOLD := Lib.hid hold; have HC := Lib.hid hc
  unfold tokV at HNX
  have hf := fieldTok1
  clear hnx h hbox hold hc
  go_enter Tryz.func26, Tryz.ntmps26
  go_wp2_with (fail)
  refine (HNX.out _).mono ?_
  rintro e w1 ⟨rfl, hb0⟩
  obtain ⟨h3, h4⟩ := one_box hb0
  have HR0 := Lib.hid h3; have HB0 := Lib.hid h4; have HSZ := Lib.hid (lt_of_block h3)
  clear hb0 h3 h4
  go_wp2_with (fail)
  refine (HC.out _ HB0.out).mono ?_
  rintro e w2 (⟨hb, ⟨h, p, l, d, rfl, hT⟩, ho2, hp2⟩ | ⟨hb, rfl, ho2⟩)
  · have hr := box_later HR0.out ho2 (by have := HOLD.out.1; omega)
    obtain ⟨⟨r0, r1, r2, r3, r4, r5, r6, r7⟩, f0, f1, f2, f3, f4, f5, f6, f7⟩ := cells8' hr
    have rl2 := lt_of_block hr
    have H := Lib.hid (And.intro hb (And.intro hT (And.intro ho2 hp2)))
    clear hb hT ho2 hp2 hr
    go_wp2_with (fail)
    refine bodyPost_ret (v := .agg #[.int .u8 h.k, .int .u8 h.op, .int .i64 h.pl, .int .i64 h.n, .string h.name, .string h.arg, .string h.exn, .slice p l d]) (by simp [results, Tryz.results26, go_sem, r0, r1, r2, r3, r4, r5, r6, r7]) rfl
      (part_pass H.out.1 H.out.2.1 H.out.2.2.2 ((Off.of_below HB0.out).trans H.out.2.2.1) HB0.out.size HSZ.out HOLD.out (fun k hk => set8_other _ _ _ _ _ _ _ _ _ _ _ hk) (Below.set8 w _ _ (Nat.le_refl _) _ _ _ _ _ _ _ _))
  · unfold thrown strayV
    have H := Lib.hid (And.intro hb ho2)
    clear hb ho2
    go_wp2_with (fail)
    exact ⟨rfl, part_thrown (bad_eq H.out.1) ((Off.of_below HB0.out).trans H.out.2)⟩
set_option maxRecDepth 10000 in
set_option maxHeartbeats 6400000 in
theorem expr_fn (w : World) (P g n c i : Nat) (ts : List Tok) (r : St × Tm) (h : PR w P g n c i ts) (e0 : ((tel ts i).s.toList == [108, 101, 116]) = false) (e1 : ((tel ts i).s.toList == [108, 101, 116, 114, 101, 99]) = false) (e2 : ((tel ts i).s.toList == [102, 110]) = true) (hc : ∀ W, Below w.heap.size w W → Calls Tryz.prog 54 #[.pointer (some ⟨P, 0, none⟩)] W (PartEnd P g n c ts r W)) :
    Calls Tryz.prog 26 #[.pointer (some ⟨P, 0, none⟩)] w (PartEnd P g n c ts r w) := by
  have hbox : ∀ O : Obj, Below w.heap.size w (w.alloc O) := fun O => ((Below.refl _ _).alloc (Nat.le_refl _) O)
  have hnx := fun O => next_walk (w.alloc O) P g n c i ts (h.below (hbox O))
  have hold := h.old
  have HNX := Lib.hid hnx; have HOLD := Lib.hid hold; have HC := Lib.hid hc
  unfold tokV at HNX
  have hf := fieldTok1
  clear hnx h hbox hold hc
  go_enter Tryz.func26, Tryz.ntmps26
  go_wp2_with (fail)
  refine (HNX.out _).mono ?_
  rintro e w1 ⟨rfl, hb0⟩
  obtain ⟨h3, h4⟩ := one_box hb0
  have HR0 := Lib.hid h3; have HB0 := Lib.hid h4; have HSZ := Lib.hid (lt_of_block h3)
  clear hb0 h3 h4
  go_wp2_with (fail)
  refine (HC.out _ HB0.out).mono ?_
  rintro e w2 (⟨hb, ⟨h, p, l, d, rfl, hT⟩, ho2, hp2⟩ | ⟨hb, rfl, ho2⟩)
  · have hr := box_later HR0.out ho2 (by have := HOLD.out.1; omega)
    obtain ⟨⟨r0, r1, r2, r3, r4, r5, r6, r7⟩, f0, f1, f2, f3, f4, f5, f6, f7⟩ := cells8' hr
    have rl2 := lt_of_block hr
    have H := Lib.hid (And.intro hb (And.intro hT (And.intro ho2 hp2)))
    clear hb hT ho2 hp2 hr
    go_wp2_with (fail)
    refine bodyPost_ret (v := .agg #[.int .u8 h.k, .int .u8 h.op, .int .i64 h.pl, .int .i64 h.n, .string h.name, .string h.arg, .string h.exn, .slice p l d]) (by simp [results, Tryz.results26, go_sem, r0, r1, r2, r3, r4, r5, r6, r7]) rfl
      (part_pass H.out.1 H.out.2.1 H.out.2.2.2 ((Off.of_below HB0.out).trans H.out.2.2.1) HB0.out.size HSZ.out HOLD.out (fun k hk => set8_other _ _ _ _ _ _ _ _ _ _ _ hk) (Below.set8 w _ _ (Nat.le_refl _) _ _ _ _ _ _ _ _))
  · unfold thrown strayV
    have H := Lib.hid (And.intro hb ho2)
    clear hb ho2
    go_wp2_with (fail)
    exact ⟨rfl, part_thrown (bad_eq H.out.1) ((Off.of_below HB0.out).trans H.out.2)⟩
set_option maxRecDepth 10000 in
set_option maxHeartbeats 6400000 in
theorem expr_choice (w : World) (P g n c i : Nat) (ts : List Tok) (r : St × Tm) (h : PR w P g n c i ts) (e0 : ((tel ts i).s.toList == [108, 101, 116]) = false) (e1 : ((tel ts i).s.toList == [108, 101, 116, 114, 101, 99]) = false) (e2 : ((tel ts i).s.toList == [102, 110]) = false) (e3 : ((tel ts i).s.toList == [105, 102]) = true) (hc : ∀ W, Below w.heap.size w W → Calls Tryz.prog 55 #[.pointer (some ⟨P, 0, none⟩)] W (PartEnd P g n c ts r W)) :
    Calls Tryz.prog 26 #[.pointer (some ⟨P, 0, none⟩)] w (PartEnd P g n c ts r w) := by
  have hbox : ∀ O : Obj, Below w.heap.size w (w.alloc O) := fun O => ((Below.refl _ _).alloc (Nat.le_refl _) O)
  have hnx := fun O => next_walk (w.alloc O) P g n c i ts (h.below (hbox O))
  have hold := h.old
  have HNX := Lib.hid hnx; have HOLD := Lib.hid hold; have HC := Lib.hid hc
  unfold tokV at HNX
  have hf := fieldTok1
  clear hnx h hbox hold hc
  go_enter Tryz.func26, Tryz.ntmps26
  go_wp2_with (fail)
  refine (HNX.out _).mono ?_
  rintro e w1 ⟨rfl, hb0⟩
  obtain ⟨h3, h4⟩ := one_box hb0
  have HR0 := Lib.hid h3; have HB0 := Lib.hid h4; have HSZ := Lib.hid (lt_of_block h3)
  clear hb0 h3 h4
  go_wp2_with (fail)
  refine (HC.out _ HB0.out).mono ?_
  rintro e w2 (⟨hb, ⟨h, p, l, d, rfl, hT⟩, ho2, hp2⟩ | ⟨hb, rfl, ho2⟩)
  · have hr := box_later HR0.out ho2 (by have := HOLD.out.1; omega)
    obtain ⟨⟨r0, r1, r2, r3, r4, r5, r6, r7⟩, f0, f1, f2, f3, f4, f5, f6, f7⟩ := cells8' hr
    have rl2 := lt_of_block hr
    have H := Lib.hid (And.intro hb (And.intro hT (And.intro ho2 hp2)))
    clear hb hT ho2 hp2 hr
    go_wp2_with (fail)
    refine bodyPost_ret (v := .agg #[.int .u8 h.k, .int .u8 h.op, .int .i64 h.pl, .int .i64 h.n, .string h.name, .string h.arg, .string h.exn, .slice p l d]) (by simp [results, Tryz.results26, go_sem, r0, r1, r2, r3, r4, r5, r6, r7]) rfl
      (part_pass H.out.1 H.out.2.1 H.out.2.2.2 ((Off.of_below HB0.out).trans H.out.2.2.1) HB0.out.size HSZ.out HOLD.out (fun k hk => set8_other _ _ _ _ _ _ _ _ _ _ _ hk) (Below.set8 w _ _ (Nat.le_refl _) _ _ _ _ _ _ _ _))
  · unfold thrown strayV
    have H := Lib.hid (And.intro hb ho2)
    clear hb ho2
    go_wp2_with (fail)
    exact ⟨rfl, part_thrown (bad_eq H.out.1) ((Off.of_below HB0.out).trans H.out.2)⟩
set_option maxRecDepth 10000 in
set_option maxHeartbeats 6400000 in
theorem expr_handler (w : World) (P g n c i : Nat) (ts : List Tok) (r : St × Tm) (h : PR w P g n c i ts) (e0 : ((tel ts i).s.toList == [108, 101, 116]) = false) (e1 : ((tel ts i).s.toList == [108, 101, 116, 114, 101, 99]) = false) (e2 : ((tel ts i).s.toList == [102, 110]) = false) (e3 : ((tel ts i).s.toList == [105, 102]) = false) (e4 : ((tel ts i).s.toList == [116, 114, 121]) = true) (hc : ∀ W, Below w.heap.size w W → Calls Tryz.prog 56 #[.pointer (some ⟨P, 0, none⟩)] W (PartEnd P g n c ts r W)) :
    Calls Tryz.prog 26 #[.pointer (some ⟨P, 0, none⟩)] w (PartEnd P g n c ts r w) := by
  have hbox : ∀ O : Obj, Below w.heap.size w (w.alloc O) := fun O => ((Below.refl _ _).alloc (Nat.le_refl _) O)
  have hnx := fun O => next_walk (w.alloc O) P g n c i ts (h.below (hbox O))
  have hold := h.old
  have HNX := Lib.hid hnx; have HOLD := Lib.hid hold; have HC := Lib.hid hc
  unfold tokV at HNX
  have hf := fieldTok1
  clear hnx h hbox hold hc
  go_enter Tryz.func26, Tryz.ntmps26
  go_wp2_with (fail)
  refine (HNX.out _).mono ?_
  rintro e w1 ⟨rfl, hb0⟩
  obtain ⟨h3, h4⟩ := one_box hb0
  have HR0 := Lib.hid h3; have HB0 := Lib.hid h4; have HSZ := Lib.hid (lt_of_block h3)
  clear hb0 h3 h4
  go_wp2_with (fail)
  refine (HC.out _ HB0.out).mono ?_
  rintro e w2 (⟨hb, ⟨h, p, l, d, rfl, hT⟩, ho2, hp2⟩ | ⟨hb, rfl, ho2⟩)
  · have hr := box_later HR0.out ho2 (by have := HOLD.out.1; omega)
    obtain ⟨⟨r0, r1, r2, r3, r4, r5, r6, r7⟩, f0, f1, f2, f3, f4, f5, f6, f7⟩ := cells8' hr
    have rl2 := lt_of_block hr
    have H := Lib.hid (And.intro hb (And.intro hT (And.intro ho2 hp2)))
    clear hb hT ho2 hp2 hr
    go_wp2_with (fail)
    refine bodyPost_ret (v := .agg #[.int .u8 h.k, .int .u8 h.op, .int .i64 h.pl, .int .i64 h.n, .string h.name, .string h.arg, .string h.exn, .slice p l d]) (by simp [results, Tryz.results26, go_sem, r0, r1, r2, r3, r4, r5, r6, r7]) rfl
      (part_pass H.out.1 H.out.2.1 H.out.2.2.2 ((Off.of_below HB0.out).trans H.out.2.2.1) HB0.out.size HSZ.out HOLD.out (fun k hk => set8_other _ _ _ _ _ _ _ _ _ _ _ hk) (Below.set8 w _ _ (Nat.le_refl _) _ _ _ _ _ _ _ _))
  · unfold thrown strayV
    have H := Lib.hid (And.intro hb ho2)
    clear hb ho2
    go_wp2_with (fail)
    exact ⟨rfl, part_thrown (bad_eq H.out.1) ((Off.of_below HB0.out).trans H.out.2)⟩
set_option maxRecDepth 10000 in
set_option maxHeartbeats 6400000 in
theorem expr_set (w : World) (P g n c i : Nat) (ts : List Tok) (r : St × Tm) (h : PR w P g n c i ts) (e0 : ((tel ts i).s.toList == [108, 101, 116]) = false) (e1 : ((tel ts i).s.toList == [108, 101, 116, 114, 101, 99]) = false) (e2 : ((tel ts i).s.toList == [102, 110]) = false) (e3 : ((tel ts i).s.toList == [105, 102]) = false) (e4 : ((tel ts i).s.toList == [116, 114, 121]) = false) (hc : ∀ W, Below w.heap.size w W → Calls Tryz.prog 57 #[.pointer (some ⟨P, 0, none⟩)] W (PartEnd P g n c ts r W)) :
    Calls Tryz.prog 26 #[.pointer (some ⟨P, 0, none⟩)] w (PartEnd P g n c ts r w) := by
  have hbox : ∀ O : Obj, Below w.heap.size w (w.alloc O) := fun O => ((Below.refl _ _).alloc (Nat.le_refl _) O)
  have hnx := fun O => next_walk (w.alloc O) P g n c i ts (h.below (hbox O))
  have hold := h.old
  have HNX := Lib.hid hnx; have HOLD := Lib.hid hold; have HC := Lib.hid hc
  unfold tokV at HNX
  have hf := fieldTok1
  clear hnx h hbox hold hc
  go_enter Tryz.func26, Tryz.ntmps26
  go_wp2_with (fail)
  refine (HNX.out _).mono ?_
  rintro e w1 ⟨rfl, hb0⟩
  obtain ⟨h3, h4⟩ := one_box hb0
  have HR0 := Lib.hid h3; have HB0 := Lib.hid h4; have HSZ := Lib.hid (lt_of_block h3)
  clear hb0 h3 h4
  go_wp2_with (fail)
  refine (HC.out _ HB0.out).mono ?_
  rintro e w2 (⟨hb, ⟨h, p, l, d, rfl, hT⟩, ho2, hp2⟩ | ⟨hb, rfl, ho2⟩)
  · have hr := box_later HR0.out ho2 (by have := HOLD.out.1; omega)
    obtain ⟨⟨r0, r1, r2, r3, r4, r5, r6, r7⟩, f0, f1, f2, f3, f4, f5, f6, f7⟩ := cells8' hr
    have rl2 := lt_of_block hr
    have H := Lib.hid (And.intro hb (And.intro hT (And.intro ho2 hp2)))
    clear hb hT ho2 hp2 hr
    go_wp2_with (fail)
    refine bodyPost_ret (v := .agg #[.int .u8 h.k, .int .u8 h.op, .int .i64 h.pl, .int .i64 h.n, .string h.name, .string h.arg, .string h.exn, .slice p l d]) (by simp [results, Tryz.results26, go_sem, r0, r1, r2, r3, r4, r5, r6, r7]) rfl
      (part_pass H.out.1 H.out.2.1 H.out.2.2.2 ((Off.of_below HB0.out).trans H.out.2.2.1) HB0.out.size HSZ.out HOLD.out (fun k hk => set8_other _ _ _ _ _ _ _ _ _ _ _ hk) (Below.set8 w _ _ (Nat.le_refl _) _ _ _ _ _ _ _ _))
  · unfold thrown strayV
    have H := Lib.hid (And.intro hb ho2)
    clear hb ho2
    go_wp2_with (fail)
    exact ⟨rfl, part_thrown (bad_eq H.out.1) ((Off.of_below HB0.out).trans H.out.2)⟩
end Parse
end Go.Proofs.YtadpjkehflokcaaGreatDoor
