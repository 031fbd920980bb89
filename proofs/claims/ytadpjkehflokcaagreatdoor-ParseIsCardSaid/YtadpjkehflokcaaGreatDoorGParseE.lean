/-The program's reading of tokens: terms with words (written by wip/tools/nodes.py). The program's reading of tokens: terms with words (written by wip/tools/nodes.py). The program's reading of tokens: terms with words (written by wip/tools/nodes.py). The program's reading of tokens: terms with words (written by wip/tools/nodes.py). -/
import Derived.Test.YtadpjkehflokcaaGreatDoorGParseC
namespace Go.Proofs.YtadpjkehflokcaaGreatDoor
open Go.RowKit
set_option linter.unusedVariables false
set_option linter.unusedSimpArgs false
namespace Parse
open Token (Tok tel ToksAt)
open Term (Tm Hd TmIs Kids ret_bool ret_i64 Reads veil Flat tcells)
open Words (str_no str_yes NumLaid)
open Chars (isin BytesAt)

set_option maxRecDepth 10000 in
set_option maxHeartbeats 12800000 in
theorem fn_walk (m : Nat) (hE : ∀ m', m' ≤ m → PE 26 exprF m') (w : World) (P g n c i : Nat) (ts : List Tok) (q : St × List Tm) (h : PR w P g n c i ts) (hL : Lay w P) (ht : textOf ts i = wFn) (hq : partsF ts m [wArrow] (getF ts (⟨i + 1, false⟩) 2) = some q) :
    Calls Tryz.prog 54 #[.pointer (some ⟨P, 0, none⟩)] w (PartEnd P g n c ts (q.1, .node ⟨11, 0, plA ts i, 0, ⟨#[]⟩, (getS ts (⟨i + 1, false⟩) 2), ⟨#[]⟩⟩ q.2) w) := by
  have hne := text_not_end (x := wFn) (by simp [wordsL]) ht
  have hbox : ∀ O : Obj, Below w.heap.size w (w.alloc O) := fun O => ((Below.refl _ _).alloc (Nat.le_refl _) O)
  have hhd := fun O => head_walk (w.alloc O) P g n c i ts 11 (h.below (hbox O)) hne
  have hold := h.old
  have hpl := h.pl
  have htx := h.row.texts
  have HHD := Lib.hid hhd; have HOLD := Lib.hid hold; have HL := Lib.hid hL; have HE := Lib.hid hE; have HQ := Lib.hid hq; have HPL := Lib.hid hpl; have HTX := Lib.hid htx
  unfold headV at HHD
  clear hhd h hbox hold hL hE hq hpl htx hne ht
  go_enter Tryz.func54, Tryz.ntmps54
  go_wp2_with (fail)
  refine (HHD.out _).mono ?_
  rintro e w1 ⟨rfl, ho, hp⟩
  obtain ⟨h3, h4⟩ := box_off ho HOLD.out.1
  have hbx1 : ∀ O : Obj, Below w1.heap.size w1 (w1.alloc O) := fun O => (Below.refl _ _).alloc (Nat.le_refl _) O
  have hn1 := fun O => name_walk (w1.alloc O) P g n c (i + 1) ts (hp.below (hbx1 O))
  have hlt := lt_of_block h3
  have hw1 := h4.size
  have HR := Lib.hid h3; have HO := Lib.hid h4; have HN := Lib.hid hn1
  unfold NameEnd thrown strayV at HN
  clear ho hp h3 h4 hn1 hbx1
  go_wp2_with (fail)
  refine (HN.out _).mono ?_
  rintro e v0 (⟨hk, rfl, ho2, hp2⟩ | ⟨hk, rfl, ho2⟩)
  rotate_left
  · have ho3 := HO.out.trans (box_off ho2 (Nat.lt_of_lt_of_le HOLD.out.1 HO.out.size)).2
    have hq := HQ.out
    rw [get_no ts hk] at hq
    have hqb := parts_bad ts _ _ _ _ rfl hq
    have HH := Lib.hid (And.intro hqb ho3)
    clear hq hqb ho3 hk ho2
    go_wp2_with (fail)
    exact ⟨rfl, part_thrown HH.out.1 HH.out.2⟩
  obtain ⟨hx, hy⟩ := box_off ho2 (Nat.lt_of_lt_of_le HOLD.out.1 HO.out.size)
  obtain ⟨⟨q0, q1, q2, q3, q4, q5, q6⟩, e0, e1, e2, e3, e4, e5, e6⟩ := cells7' hx
  have hx3 : (v0.setCell ⟨w1.heap.size, 5, none⟩ (.string (tel ts (i + 1)).s)).heap[w1.heap.size]? = some (.cells #[.int .u8 11, .int .u8 0, .int .i64 (tel ts i).a, .int .i64 0, .string ⟨#[]⟩, .string (tel ts (i + 1)).s, .string ⟨#[]⟩] 26 (0, 0)) := set_block hx
  have hb3 : Below w1.heap.size v0 (v0.setCell ⟨w1.heap.size, 5, none⟩ (.string (tel ts (i + 1)).s)) := set_new _ _ _ _
  have ho3 := (HO.out.trans hy).then (hb3.mono hw1)
  have hp3 := hp2.keep hb3 (Nat.lt_of_lt_of_le HOLD.out.1 hw1) (Nat.lt_of_lt_of_le HOLD.out.2 hw1)
  have hr3 : (v0.setCell ⟨w1.heap.size, 5, none⟩ (.string (tel ts (i + 1)).s)).heap[w.heap.size]? = some (.cells #[.int .u8 0, .int .u8 0, .int .i64 0, .int .i64 0, .string ⟨#[]⟩, .string ⟨#[]⟩, .string ⟨#[]⟩, .slice none 0 0] 29 (0, 0)) := (hb3.block _ hlt).trans (box_later HR.out hy (by have := HOLD.out.1; omega))
  have HK0 := Lib.hid hk
  have HLT0 := Lib.hid (show i + 1 < n from by have := hp2.lt; omega)
  have hq3 := lt_of_block hx
  clear ho2 hp2 hk hy hx
  clear HO
  have HO := Lib.hid ho3; have HX := Lib.hid hx3; have HP0 := Lib.hid hp3; have HRB0 := Lib.hid hr3; have HB3 := Lib.hid hb3
  clear ho3 hx3 hp3 hr3 hb3
  go_wp2_with (fail)
  generalize hg : v0.setCell ⟨w1.heap.size, 5, none⟩ (.string (tel ts (i + 1)).s) = u0 at *
  clear hg HN HB3 q0 q1 q2 q3 q4 q5 q6 e0 e1 e2 e3 e4 e5 e6
  have hq := HQ.out
  rw [(get_ok ts HK0.out).1] at hq
  obtain ⟨m1, r1, hm1, hr1, rfl⟩ := parts1 ts ne_e0.2.2.1 hq
  clear hq HQ
  have HR1 := Lib.hid hr1
  clear hr1
  refine wp_region_held_drew (S := fun W => W.heap[w1.heap.size]? = some (.cells #[.int .u8 11, .int .u8 0, .int .i64 (tel ts i).a, .int .i64 0, .string ⟨#[]⟩, .string (tel ts (i + 1)).s, .string ⟨#[]⟩] 26 (0, 0))) (by kernel_rfl) HX.out (fun hHeld => ?_)
  refine wpAnyH_take (i := 0) (v := .agg #[.int .u8 11, .int .u8 0, .int .i64 (tel ts i).a, .int .i64 0, .string ⟨#[]⟩, .string (tel ts (i + 1)).s, .string ⟨#[]⟩]) rfl (by kernel_rfl) (by kernel_rfl) (by kernel_rfl) (fun _ _ _ h => h) (Or.inl ⟨by rfl, ?_⟩) (by assumption) ?_
  · intro w' hSw
    obtain ⟨⟨q0, q1, q2, q3, q4, q5, q6⟩, e0, e1, e2, e3, e4, e5, e6⟩ := cells7' hSw
    go_simp
  try simp only [Act.put, List.setIfInBounds_toArray, List.set_cons_zero, List.set_cons_succ]
  refine wpAnyH_take (i := 1) (v := .pointer (some ⟨P, 0, none⟩)) rfl (by kernel_rfl) (by kernel_rfl) (by kernel_rfl) (fun _ _ _ h => h) (Or.inl ⟨by rfl, ?_⟩) (by assumption) ?_
  · intro w' hSw
    go_simp
  try simp only [Act.put, List.setIfInBounds_toArray, List.set_cons_zero, List.set_cons_succ]
  refine wpAnyH_take (i := 2) (v := .pointer (some ⟨P, 0, none⟩)) rfl (by kernel_rfl) (by kernel_rfl) (by kernel_rfl) (fun _ _ _ h => h) (Or.inl ⟨by rfl, ?_⟩) (by assumption) ?_
  · intro w' hSw
    go_simp
  try simp only [Act.put, List.setIfInBounds_toArray, List.set_cons_zero, List.set_cons_succ]
  refine wpAnyH_take (i := 3) (v := .func (.func 26) #[.pointer (some ⟨P, 0, none⟩)] #[]) rfl (by kernel_rfl) (by kernel_rfl) (by kernel_rfl) (fun _ _ _ h => h) (Or.inl ⟨by rfl, ?_⟩) (by assumption) ?_
  · intro w' hSw
    first | go_simp | rfl
  try simp only [Act.put, List.setIfInBounds_toArray, List.set_cons_zero, List.set_cons_succ]
  have HOc : Hid (Off P w u0.drew) := Lib.hid ⟨HO.out.os, HO.out.tape, HO.out.output, HO.out.size, HO.out.block⟩
  have HPc : Hid (PR u0.drew P g n c (i + 2) ts) := Lib.hid (HP0.out.keep (B := u0.heap.size) ((Below.refl _ _).drew) HP0.out.old.1 HP0.out.old.2)
  have HRc : Hid (u0.drew.heap[w.heap.size]? = some (.cells #[.int .u8 0, .int .u8 0, .int .i64 0, .int .i64 0, .string ⟨#[]⟩, .string ⟨#[]⟩, .string ⟨#[]⟩, .slice none 0 0] 29 (0, 0))) := HRB0
  have HSZ : Hid (w.heap.size < u0.drew.heap.size) := Lib.hid (Nat.lt_of_lt_of_le hlt (by have := lt_of_block HX.out; show w1.heap.size ≤ u0.heap.size; omega))
  refine wpAnyH_ready (rs := [4]) (by kernel_rfl) (by simp) ?_
  refine AllReadyH.cons rfl (fun K hK => ?_) AllReadyH.nil
  go_simp
  refine (behind_walk m1 (HE.out m1 hm1) _ P g n c (i + 2) ts wArrow r1 HPc.out (HL.out.off HOc.out) (by simp [wordsL]) HR1.out).mono ?_
  rintro e y0 (⟨hbd, ⟨h0, p0, l0, d0, rfl, hT⟩, ho4, hp4⟩ | ⟨hbd, rfl, ho4⟩)
  rotate_left
  · have ho5 := HOc.out.trans ho4
    have HH := Lib.hid (And.intro (bad_eq hbd) ho5)
    clear ho5 ho4 hbd
    unfold thrown strayV
    exact ⟨rfl, part_thrown HH.out.1 HH.out.2⟩
  have hX := box_later hHeld ho4 (by have := HOLD.out.1; omega)
  have HOn := Lib.hid (HOc.out.trans ho4); have HRn := Lib.hid (box_later HRc.out ho4 (by have := HOLD.out.1; omega)); have HTM0 := Lib.hid hT; have HBD1 := Lib.hid hbd; have HPn := Lib.hid hp4; have HSZ0 := HSZ; have HSn := Lib.hid (Nat.lt_of_lt_of_le HSZ.out ho4.size); have HOK0 := Lib.hid ho4
  clear HOc HPc HRc hT hbd hp4 ho4 HSZ hHeld
  have HOc := HOn; have HPc := HPn; have HRc := HRn; have HSZ := HSn
  clear HOn HPn HRn HSn
  refine hK.out _ _ hX (fun hHeld => ?_)
  try simp only [Act.put, List.setIfInBounds_toArray, List.set_cons_zero, List.set_cons_succ]
  clear hK hX K
  refine wpAnyH_ready (rs := [5]) (by kernel_rfl) (by simp) ?_
  refine AllReadyH.cons rfl (fun K hK => ?_) AllReadyH.nil
  go_simp
  have hX := (Below.heap_alloc y0 (.cells #[.int .u8 h0.k, .int .u8 h0.op, .int .i64 h0.pl, .int .i64 h0.n, .string h0.name, .string h0.arg, .string h0.exn, .slice p0 l0 d0] 29) _ (lt_of_block hHeld)).trans hHeld
  refine hK.out _ _ hX (fun hHeld => ?_)
  try simp only [Act.put, List.setIfInBounds_toArray, List.set_cons_zero, List.set_cons_succ]
  clear hK hX K
  refine wpAnyH_ready (rs := [6]) (by kernel_rfl) (by simp) ?_
  refine AllReadyH.cons rfl (fun K hK => ?_) AllReadyH.nil
  go_simp
  refine (node_walk _ 11 0 (tel ts i).a 0 ⟨#[]⟩ (tel ts (i + 1)).s ⟨#[]⟩ (some ⟨y0.heap.size, 0, none⟩) 1 1).mono ?_
  rintro e z ⟨rfl, hbz⟩
  obtain ⟨hrow, hbz2⟩ := one_box hbz
  have hr := (hbz2.block _ HSZ.out).trans HRc.out
  obtain ⟨⟨r0, r1', r2', r3', r4', r5', r6', r7'⟩, f0, f1, f2, f3, f4, f5, f6, f7⟩ := cells8' hr
  have hX := (hbz.block _ (by have := lt_of_block hHeld; simpa using this)).trans hHeld
  have rl := lt_of_block hr
  have HROW := Lib.hid hrow; have HBZ := Lib.hid hbz2
  clear hrow hbz hbz2 hr hHeld
  refine hK.out _ _ hX (fun hHeld => ?_)
  try simp only [Act.put, List.setIfInBounds_toArray, List.set_cons_zero, List.set_cons_succ]
  clear hK hX K
  refine wpAnyH_ready (rs := [7]) (by kernel_rfl) (by simp) ?_
  refine AllReadyH.cons rfl (fun K hK => ?_) AllReadyH.nil
  have HH := Lib.hid hHeld
  clear hHeld
  go_simp
  refine hK.out _ _ ((set8_other _ _ _ _ _ _ _ _ _ _ _ (by omega)).trans HH.out) (fun hHeld => ?_)
  refine wpAnyH_done (by kernel_rfl) ?_ _
  clear hK hHeld K
  go_wp2_with (fail)
  refine bodyPost_ret (v := .agg #[.int .u8 11, .int .u8 0, .int .i64 (tel ts i).a, .int .i64 0, .string ⟨#[]⟩, .string (tel ts (i + 1)).s, .string ⟨#[]⟩, .slice (some ⟨y0.heap.size, 0, none⟩) 1 1]) (by simp [results, Tryz.results54, go_sem, r0, r1', r2', r3', r4', r5', r6', r7']) rfl ?_
  refine node_end (xs := tcells h0 p0 l0 d0) (kids := [r1.2]) HBD1.out (by simp only [(get_ok ts HK0.out).2, (get_ok ts HK0.out).1]; rfl) HROW.out HSZ.out (Flat.one (kid_up HTM0.out HSZ0.out HOLD.out.1 (Off.of_below HBZ.out))) rfl (by unfold maxLen; omega) (hd_any (by omega) HPL.out e0_small ?_ e0_small) (HOc.out.trans (Off.of_below HBZ.out)) (HPc.out.below HBZ.out) HOLD.out (fun k hk => set8_other _ _ _ _ _ _ _ _ _ _ _ hk) (Below.set8 w _ _ (Nat.le_refl _) _ _ _ _ _ _ _ _)
  · exact HTX.out (i + 1) (by have := HLT0.out; omega)
end Parse
end Go.Proofs.YtadpjkehflokcaaGreatDoor
namespace Go.Proofs.YtadpjkehflokcaaGreatDoor
open Go.RowKit
set_option linter.unusedVariables false
set_option linter.unusedSimpArgs false
namespace Parse
open Token (Tok tel ToksAt)
open Term (Tm Hd TmIs Kids ret_bool ret_i64 Reads veil Flat tcells)
open Words (str_no str_yes NumLaid)
open Chars (isin BytesAt)

set_option maxRecDepth 10000 in
set_option maxHeartbeats 12800000 in
theorem let_walk (m : Nat) (hE : ∀ m', m' ≤ m → PE 26 exprF m') (w : World) (P g n c i : Nat) (ts : List Tok) (q : St × List Tm) (h : PR w P g n c i ts) (hL : Lay w P) (ht : textOf ts i = wLet) (hq : partsF ts m [wIs, wIn] (getF ts (⟨i + 1, false⟩) 2) = some q) :
    Calls Tryz.prog 52 #[.pointer (some ⟨P, 0, none⟩)] w (PartEnd P g n c ts (q.1, .node ⟨12, 0, plA ts i, 0, (getS ts (⟨i + 1, false⟩) 2), ⟨#[]⟩, ⟨#[]⟩⟩ q.2) w) := by
  have hne := text_not_end (x := wLet) (by simp [wordsL]) ht
  have hbox : ∀ O : Obj, Below w.heap.size w (w.alloc O) := fun O => ((Below.refl _ _).alloc (Nat.le_refl _) O)
  have hhd := fun O => head_walk (w.alloc O) P g n c i ts 12 (h.below (hbox O)) hne
  have hold := h.old
  have hpl := h.pl
  have htx := h.row.texts
  have HHD := Lib.hid hhd; have HOLD := Lib.hid hold; have HL := Lib.hid hL; have HE := Lib.hid hE; have HQ := Lib.hid hq; have HPL := Lib.hid hpl; have HTX := Lib.hid htx
  unfold headV at HHD
  clear hhd h hbox hold hL hE hq hpl htx hne ht
  go_enter Tryz.func52, Tryz.ntmps52
  go_wp2_with (fail)
  refine (HHD.out _).mono ?_
  rintro e w1 ⟨rfl, ho, hp⟩
  obtain ⟨h3, h4⟩ := box_off ho HOLD.out.1
  have hbx1 : ∀ O : Obj, Below w1.heap.size w1 (w1.alloc O) := fun O => (Below.refl _ _).alloc (Nat.le_refl _) O
  have hn1 := fun O => name_walk (w1.alloc O) P g n c (i + 1) ts (hp.below (hbx1 O))
  have hlt := lt_of_block h3
  have hw1 := h4.size
  have HR := Lib.hid h3; have HO := Lib.hid h4; have HN := Lib.hid hn1
  unfold NameEnd thrown strayV at HN
  clear ho hp h3 h4 hn1 hbx1
  go_wp2_with (fail)
  refine (HN.out _).mono ?_
  rintro e v0 (⟨hk, rfl, ho2, hp2⟩ | ⟨hk, rfl, ho2⟩)
  rotate_left
  · have ho3 := HO.out.trans (box_off ho2 (Nat.lt_of_lt_of_le HOLD.out.1 HO.out.size)).2
    have hq := HQ.out
    rw [get_no ts hk] at hq
    have hqb := parts_bad ts _ _ _ _ rfl hq
    have HH := Lib.hid (And.intro hqb ho3)
    clear hq hqb ho3 hk ho2
    go_wp2_with (fail)
    exact ⟨rfl, part_thrown HH.out.1 HH.out.2⟩
  obtain ⟨hx, hy⟩ := box_off ho2 (Nat.lt_of_lt_of_le HOLD.out.1 HO.out.size)
  obtain ⟨⟨q0, q1, q2, q3, q4, q5, q6⟩, e0, e1, e2, e3, e4, e5, e6⟩ := cells7' hx
  have hx3 : (v0.setCell ⟨w1.heap.size, 4, none⟩ (.string (tel ts (i + 1)).s)).heap[w1.heap.size]? = some (.cells #[.int .u8 12, .int .u8 0, .int .i64 (tel ts i).a, .int .i64 0, .string (tel ts (i + 1)).s, .string ⟨#[]⟩, .string ⟨#[]⟩] 26 (0, 0)) := set_block hx
  have hb3 : Below w1.heap.size v0 (v0.setCell ⟨w1.heap.size, 4, none⟩ (.string (tel ts (i + 1)).s)) := set_new _ _ _ _
  have ho3 := (HO.out.trans hy).then (hb3.mono hw1)
  have hp3 := hp2.keep hb3 (Nat.lt_of_lt_of_le HOLD.out.1 hw1) (Nat.lt_of_lt_of_le HOLD.out.2 hw1)
  have hr3 : (v0.setCell ⟨w1.heap.size, 4, none⟩ (.string (tel ts (i + 1)).s)).heap[w.heap.size]? = some (.cells #[.int .u8 0, .int .u8 0, .int .i64 0, .int .i64 0, .string ⟨#[]⟩, .string ⟨#[]⟩, .string ⟨#[]⟩, .slice none 0 0] 29 (0, 0)) := (hb3.block _ hlt).trans (box_later HR.out hy (by have := HOLD.out.1; omega))
  have HK0 := Lib.hid hk
  have HLT0 := Lib.hid (show i + 1 < n from by have := hp2.lt; omega)
  have hq3 := lt_of_block hx
  clear ho2 hp2 hk hy hx
  clear HO
  have HO := Lib.hid ho3; have HX := Lib.hid hx3; have HP0 := Lib.hid hp3; have HRB0 := Lib.hid hr3; have HB3 := Lib.hid hb3
  clear ho3 hx3 hp3 hr3 hb3
  go_wp2_with (fail)
  generalize hg : v0.setCell ⟨w1.heap.size, 4, none⟩ (.string (tel ts (i + 1)).s) = u0 at *
  clear hg HN HB3 q0 q1 q2 q3 q4 q5 q6 e0 e1 e2 e3 e4 e5 e6
  have hq := HQ.out
  rw [(get_ok ts HK0.out).1] at hq
  obtain ⟨m1, r1, m2, r2, hm1, hm2, hr1, hr2, rfl⟩ := parts2 ts ne_e0.1 ne_e0.2.1 hq
  clear hq HQ
  have HR1 := Lib.hid hr1
  clear hr1
  have HR2 := Lib.hid hr2
  clear hr2
  refine wp_region_held_drew (S := fun W => W.heap[w1.heap.size]? = some (.cells #[.int .u8 12, .int .u8 0, .int .i64 (tel ts i).a, .int .i64 0, .string (tel ts (i + 1)).s, .string ⟨#[]⟩, .string ⟨#[]⟩] 26 (0, 0))) (by kernel_rfl) HX.out (fun hHeld => ?_)
  refine wpAnyH_take (i := 0) (v := .agg #[.int .u8 12, .int .u8 0, .int .i64 (tel ts i).a, .int .i64 0, .string (tel ts (i + 1)).s, .string ⟨#[]⟩, .string ⟨#[]⟩]) rfl (by kernel_rfl) (by kernel_rfl) (by kernel_rfl) (fun _ _ _ h => h) (Or.inl ⟨by rfl, ?_⟩) (by assumption) ?_
  · intro w' hSw
    obtain ⟨⟨q0, q1, q2, q3, q4, q5, q6⟩, e0, e1, e2, e3, e4, e5, e6⟩ := cells7' hSw
    go_simp
  try simp only [Act.put, List.setIfInBounds_toArray, List.set_cons_zero, List.set_cons_succ]
  refine wpAnyH_take (i := 1) (v := .pointer (some ⟨P, 0, none⟩)) rfl (by kernel_rfl) (by kernel_rfl) (by kernel_rfl) (fun _ _ _ h => h) (Or.inl ⟨by rfl, ?_⟩) (by assumption) ?_
  · intro w' hSw
    go_simp
  try simp only [Act.put, List.setIfInBounds_toArray, List.set_cons_zero, List.set_cons_succ]
  refine wpAnyH_take (i := 2) (v := .pointer (some ⟨P, 0, none⟩)) rfl (by kernel_rfl) (by kernel_rfl) (by kernel_rfl) (fun _ _ _ h => h) (Or.inl ⟨by rfl, ?_⟩) (by assumption) ?_
  · intro w' hSw
    go_simp
  try simp only [Act.put, List.setIfInBounds_toArray, List.set_cons_zero, List.set_cons_succ]
  refine wpAnyH_take (i := 3) (v := .func (.func 26) #[.pointer (some ⟨P, 0, none⟩)] #[]) rfl (by kernel_rfl) (by kernel_rfl) (by kernel_rfl) (fun _ _ _ h => h) (Or.inl ⟨by rfl, ?_⟩) (by assumption) ?_
  · intro w' hSw
    first | go_simp | rfl
  try simp only [Act.put, List.setIfInBounds_toArray, List.set_cons_zero, List.set_cons_succ]
  refine wpAnyH_take (i := 5) (v := .pointer (some ⟨P, 0, none⟩)) rfl (by kernel_rfl) (by kernel_rfl) (by kernel_rfl) (fun _ _ _ h => h) (Or.inl ⟨by rfl, ?_⟩) (by assumption) ?_
  · intro w' hSw
    go_simp
  try simp only [Act.put, List.setIfInBounds_toArray, List.set_cons_zero, List.set_cons_succ]
  refine wpAnyH_take (i := 6) (v := .pointer (some ⟨P, 0, none⟩)) rfl (by kernel_rfl) (by kernel_rfl) (by kernel_rfl) (fun _ _ _ h => h) (Or.inl ⟨by rfl, ?_⟩) (by assumption) ?_
  · intro w' hSw
    go_simp
  try simp only [Act.put, List.setIfInBounds_toArray, List.set_cons_zero, List.set_cons_succ]
  refine wpAnyH_take (i := 7) (v := .func (.func 26) #[.pointer (some ⟨P, 0, none⟩)] #[]) rfl (by kernel_rfl) (by kernel_rfl) (by kernel_rfl) (fun _ _ _ h => h) (Or.inl ⟨by rfl, ?_⟩) (by assumption) ?_
  · intro w' hSw
    first | go_simp | rfl
  try simp only [Act.put, List.setIfInBounds_toArray, List.set_cons_zero, List.set_cons_succ]
  have HOc : Hid (Off P w u0.drew) := Lib.hid ⟨HO.out.os, HO.out.tape, HO.out.output, HO.out.size, HO.out.block⟩
  have HPc : Hid (PR u0.drew P g n c (i + 2) ts) := Lib.hid (HP0.out.keep (B := u0.heap.size) ((Below.refl _ _).drew) HP0.out.old.1 HP0.out.old.2)
  have HRc : Hid (u0.drew.heap[w.heap.size]? = some (.cells #[.int .u8 0, .int .u8 0, .int .i64 0, .int .i64 0, .string ⟨#[]⟩, .string ⟨#[]⟩, .string ⟨#[]⟩, .slice none 0 0] 29 (0, 0))) := HRB0
  have HSZ : Hid (w.heap.size < u0.drew.heap.size) := Lib.hid (Nat.lt_of_lt_of_le hlt (by have := lt_of_block HX.out; show w1.heap.size ≤ u0.heap.size; omega))
  refine wpAnyH_ready (rs := [4]) (by kernel_rfl) (by simp) ?_
  refine AllReadyH.cons rfl (fun K hK => ?_) AllReadyH.nil
  go_simp
  refine (behind_walk m1 (HE.out m1 hm1) _ P g n c (i + 2) ts wIs r1 HPc.out (HL.out.off HOc.out) (by simp [wordsL]) HR1.out).mono ?_
  rintro e y0 (⟨hbd, ⟨h0, p0, l0, d0, rfl, hT⟩, ho4, hp4⟩ | ⟨hbd, rfl, ho4⟩)
  rotate_left
  · have ho5 := HOc.out.trans ho4
    have hfin := then_bad ts hbd HR2.out
    have hq2 : r2.1 = ⟨r1.1.i, true⟩ := hfin.trans (bad_eq hbd)
    have HH := Lib.hid (And.intro hq2 ho5)
    clear hq2 ho5 ho4 hbd hfin
    unfold thrown strayV
    exact ⟨rfl, part_thrown HH.out.1 HH.out.2⟩
  have hX := box_later hHeld ho4 (by have := HOLD.out.1; omega)
  have HOn := Lib.hid (HOc.out.trans ho4); have HRn := Lib.hid (box_later HRc.out ho4 (by have := HOLD.out.1; omega)); have HTM0 := Lib.hid hT; have HBD1 := Lib.hid hbd; have HPn := Lib.hid hp4; have HSZ0 := HSZ; have HSn := Lib.hid (Nat.lt_of_lt_of_le HSZ.out ho4.size); have HOK0 := Lib.hid ho4
  clear HOc HPc HRc hT hbd hp4 ho4 HSZ hHeld
  have HOc := HOn; have HPc := HPn; have HRc := HRn; have HSZ := HSn
  clear HOn HPn HRn HSn
  refine hK.out _ _ hX (fun hHeld => ?_)
  try simp only [Act.put, List.setIfInBounds_toArray, List.set_cons_zero, List.set_cons_succ]
  clear hK hX K
  refine wpAnyH_ready (rs := [8]) (by kernel_rfl) (by simp) ?_
  refine AllReadyH.cons rfl (fun K hK => ?_) AllReadyH.nil
  go_simp
  refine (behind_walk m2 (HE.out m2 hm2) _ P g n c (r1.1.i) ts wIn r2 HPc.out (HL.out.off HOc.out) (by simp [wordsL]) (by have := HR2.out; rw [good_eq HBD1.out] at this; exact this)).mono ?_
  rintro e y1 (⟨hbd, ⟨h1, p1, l1, d1, rfl, hT⟩, ho4, hp4⟩ | ⟨hbd, rfl, ho4⟩)
  rotate_left
  · have ho5 := HOc.out.trans ho4
    have HH := Lib.hid (And.intro (bad_eq hbd) ho5)
    clear ho5 ho4 hbd
    unfold thrown strayV
    exact ⟨rfl, part_thrown HH.out.1 HH.out.2⟩
  have hX := box_later hHeld ho4 (by have := HOLD.out.1; omega)
  have HOn := Lib.hid (HOc.out.trans ho4); have HRn := Lib.hid (box_later HRc.out ho4 (by have := HOLD.out.1; omega)); have HTM1 := Lib.hid hT; have HBD2 := Lib.hid hbd; have HPn := Lib.hid hp4; have HSZ1 := HSZ; have HSn := Lib.hid (Nat.lt_of_lt_of_le HSZ.out ho4.size); have HOK1 := Lib.hid ho4
  clear HOc HPc HRc hT hbd hp4 ho4 HSZ hHeld
  have HOc := HOn; have HPc := HPn; have HRc := HRn; have HSZ := HSn
  clear HOn HPn HRn HSn
  refine hK.out _ _ hX (fun hHeld => ?_)
  try simp only [Act.put, List.setIfInBounds_toArray, List.set_cons_zero, List.set_cons_succ]
  clear hK hX K
  refine wpAnyH_ready (rs := [9]) (by kernel_rfl) (by simp) ?_
  refine AllReadyH.cons rfl (fun K hK => ?_) AllReadyH.nil
  go_simp
  have hX := (Below.heap_alloc y1 (.cells #[.int .u8 h0.k, .int .u8 h0.op, .int .i64 h0.pl, .int .i64 h0.n, .string h0.name, .string h0.arg, .string h0.exn, .slice p0 l0 d0, .int .u8 h1.k, .int .u8 h1.op, .int .i64 h1.pl, .int .i64 h1.n, .string h1.name, .string h1.arg, .string h1.exn, .slice p1 l1 d1] 29) _ (lt_of_block hHeld)).trans hHeld
  refine hK.out _ _ hX (fun hHeld => ?_)
  try simp only [Act.put, List.setIfInBounds_toArray, List.set_cons_zero, List.set_cons_succ]
  clear hK hX K
  refine wpAnyH_ready (rs := [10]) (by kernel_rfl) (by simp) ?_
  refine AllReadyH.cons rfl (fun K hK => ?_) AllReadyH.nil
  go_simp
  refine (node_walk _ 12 0 (tel ts i).a 0 (tel ts (i + 1)).s ⟨#[]⟩ ⟨#[]⟩ (some ⟨y1.heap.size, 0, none⟩) 2 2).mono ?_
  rintro e z ⟨rfl, hbz⟩
  obtain ⟨hrow, hbz2⟩ := one_box hbz
  have hr := (hbz2.block _ HSZ.out).trans HRc.out
  obtain ⟨⟨r0, r1', r2', r3', r4', r5', r6', r7'⟩, f0, f1, f2, f3, f4, f5, f6, f7⟩ := cells8' hr
  have hX := (hbz.block _ (by have := lt_of_block hHeld; simpa using this)).trans hHeld
  have rl := lt_of_block hr
  have HROW := Lib.hid hrow; have HBZ := Lib.hid hbz2
  clear hrow hbz hbz2 hr hHeld
  refine hK.out _ _ hX (fun hHeld => ?_)
  try simp only [Act.put, List.setIfInBounds_toArray, List.set_cons_zero, List.set_cons_succ]
  clear hK hX K
  refine wpAnyH_ready (rs := [11]) (by kernel_rfl) (by simp) ?_
  refine AllReadyH.cons rfl (fun K hK => ?_) AllReadyH.nil
  have HH := Lib.hid hHeld
  clear hHeld
  go_simp
  refine hK.out _ _ ((set8_other _ _ _ _ _ _ _ _ _ _ _ (by omega)).trans HH.out) (fun hHeld => ?_)
  refine wpAnyH_done (by kernel_rfl) ?_ _
  clear hK hHeld K
  go_wp2_with (fail)
  refine bodyPost_ret (v := .agg #[.int .u8 12, .int .u8 0, .int .i64 (tel ts i).a, .int .i64 0, .string (tel ts (i + 1)).s, .string ⟨#[]⟩, .string ⟨#[]⟩, .slice (some ⟨y1.heap.size, 0, none⟩) 2 2]) (by simp [results, Tryz.results52, go_sem, r0, r1', r2', r3', r4', r5', r6', r7']) rfl ?_
  refine node_end (xs := tcells h0 p0 l0 d0 ++ tcells h1 p1 l1 d1) (kids := [r1.2, r2.2]) HBD2.out (by simp only [(get_ok ts HK0.out).2, (get_ok ts HK0.out).1]; rfl) HROW.out HSZ.out ((Flat.one (kid_up HTM0.out HSZ0.out HOLD.out.1 (HOK1.out.trans (Off.of_below HBZ.out)))).append (Flat.one (kid_up HTM1.out HSZ1.out HOLD.out.1 (Off.of_below HBZ.out)))) rfl (by unfold maxLen; omega) (hd_any (by omega) HPL.out ?_ e0_small e0_small) (HOc.out.trans (Off.of_below HBZ.out)) (HPc.out.below HBZ.out) HOLD.out (fun k hk => set8_other _ _ _ _ _ _ _ _ _ _ _ hk) (Below.set8 w _ _ (Nat.le_refl _) _ _ _ _ _ _ _ _)
  · exact HTX.out (i + 1) (by have := HLT0.out; omega)
end Parse
end Go.Proofs.YtadpjkehflokcaaGreatDoor
namespace Go.Proofs.YtadpjkehflokcaaGreatDoor
open Go.RowKit
set_option linter.unusedVariables false
set_option linter.unusedSimpArgs false
namespace Parse
open Token (Tok tel ToksAt)
open Term (Tm Hd TmIs Kids ret_bool ret_i64 Reads veil Flat tcells)
open Words (str_no str_yes NumLaid)
open Chars (isin BytesAt)

set_option maxRecDepth 10000 in
set_option maxHeartbeats 12800000 in
theorem letrec_walk (m : Nat) (hE : ∀ m', m' ≤ m → PE 26 exprF m') (w : World) (P g n c i : Nat) (ts : List Tok) (q : St × List Tm) (h : PR w P g n c i ts) (hL : Lay w P) (ht : textOf ts i = wLetrec) (hq : partsF ts m [wIs, wIn] (getF ts (getF ts (⟨i + 1, false⟩) 2) 2) = some q) :
    Calls Tryz.prog 53 #[.pointer (some ⟨P, 0, none⟩)] w (PartEnd P g n c ts (q.1, .node ⟨13, 0, plA ts i, 0, (getS ts (⟨i + 1, false⟩) 2), (getS ts (getF ts (⟨i + 1, false⟩) 2) 2), ⟨#[]⟩⟩ q.2) w) := by
  have hne := text_not_end (x := wLetrec) (by simp [wordsL]) ht
  have hbox : ∀ O : Obj, Below w.heap.size w (w.alloc O) := fun O => ((Below.refl _ _).alloc (Nat.le_refl _) O)
  have hhd := fun O => head_walk (w.alloc O) P g n c i ts 13 (h.below (hbox O)) hne
  have hold := h.old
  have hpl := h.pl
  have htx := h.row.texts
  have HHD := Lib.hid hhd; have HOLD := Lib.hid hold; have HL := Lib.hid hL; have HE := Lib.hid hE; have HQ := Lib.hid hq; have HPL := Lib.hid hpl; have HTX := Lib.hid htx
  unfold headV at HHD
  clear hhd h hbox hold hL hE hq hpl htx hne ht
  go_enter Tryz.func53, Tryz.ntmps53
  go_wp2_with (fail)
  refine (HHD.out _).mono ?_
  rintro e w1 ⟨rfl, ho, hp⟩
  obtain ⟨h3, h4⟩ := box_off ho HOLD.out.1
  have hbx1 : ∀ O : Obj, Below w1.heap.size w1 (w1.alloc O) := fun O => (Below.refl _ _).alloc (Nat.le_refl _) O
  have hn1 := fun O => name_walk (w1.alloc O) P g n c (i + 1) ts (hp.below (hbx1 O))
  have hlt := lt_of_block h3
  have hw1 := h4.size
  have HR := Lib.hid h3; have HO := Lib.hid h4; have HN := Lib.hid hn1
  unfold NameEnd thrown strayV at HN
  clear ho hp h3 h4 hn1 hbx1
  go_wp2_with (fail)
  refine (HN.out _).mono ?_
  rintro e v0 (⟨hk, rfl, ho2, hp2⟩ | ⟨hk, rfl, ho2⟩)
  rotate_left
  · have ho3 := HO.out.trans (box_off ho2 (Nat.lt_of_lt_of_le HOLD.out.1 HO.out.size)).2
    have hq := HQ.out
    rw [get_no ts hk] at hq
    rw [get_bad ts rfl] at hq
    have hqb := parts_bad ts _ _ _ _ rfl hq
    have HH := Lib.hid (And.intro hqb ho3)
    clear hq hqb ho3 hk ho2
    go_wp2_with (fail)
    exact ⟨rfl, part_thrown HH.out.1 HH.out.2⟩
  obtain ⟨hx, hy⟩ := box_off ho2 (Nat.lt_of_lt_of_le HOLD.out.1 HO.out.size)
  obtain ⟨⟨q0, q1, q2, q3, q4, q5, q6⟩, e0, e1, e2, e3, e4, e5, e6⟩ := cells7' hx
  have hx3 : (v0.setCell ⟨w1.heap.size, 4, none⟩ (.string (tel ts (i + 1)).s)).heap[w1.heap.size]? = some (.cells #[.int .u8 13, .int .u8 0, .int .i64 (tel ts i).a, .int .i64 0, .string (tel ts (i + 1)).s, .string ⟨#[]⟩, .string ⟨#[]⟩] 26 (0, 0)) := set_block hx
  have hb3 : Below w1.heap.size v0 (v0.setCell ⟨w1.heap.size, 4, none⟩ (.string (tel ts (i + 1)).s)) := set_new _ _ _ _
  have ho3 := (HO.out.trans hy).then (hb3.mono hw1)
  have hp3 := hp2.keep hb3 (Nat.lt_of_lt_of_le HOLD.out.1 hw1) (Nat.lt_of_lt_of_le HOLD.out.2 hw1)
  have hr3 : (v0.setCell ⟨w1.heap.size, 4, none⟩ (.string (tel ts (i + 1)).s)).heap[w.heap.size]? = some (.cells #[.int .u8 0, .int .u8 0, .int .i64 0, .int .i64 0, .string ⟨#[]⟩, .string ⟨#[]⟩, .string ⟨#[]⟩, .slice none 0 0] 29 (0, 0)) := (hb3.block _ hlt).trans (box_later HR.out hy (by have := HOLD.out.1; omega))
  have HK0 := Lib.hid hk
  have HLT0 := Lib.hid (show i + 1 < n from by have := hp2.lt; omega)
  have hq3 := lt_of_block hx
  clear ho2 hp2 hk hy hx
  clear HO
  have HO := Lib.hid ho3; have HX := Lib.hid hx3; have HP0 := Lib.hid hp3; have HRB0 := Lib.hid hr3; have HB3 := Lib.hid hb3
  clear ho3 hx3 hp3 hr3 hb3
  go_wp2_with (fail)
  generalize hg : v0.setCell ⟨w1.heap.size, 4, none⟩ (.string (tel ts (i + 1)).s) = u0 at *
  have HN' := Lib.hid (name_walk u0 P g n c (i + 2) ts HP0.out)
  unfold NameEnd thrown strayV at HN'
  clear hg HN HB3 q0 q1 q2 q3 q4 q5 q6 e0 e1 e2 e3 e4 e5 e6
  have HN := HN'
  clear HN'
  refine (HN.out).mono ?_
  rintro e v1 (⟨hk, rfl, ho2, hp2⟩ | ⟨hk, rfl, ho2⟩)
  rotate_left
  · have ho3 := HO.out.trans ho2
    have hq := HQ.out
    rw [(get_ok ts HK0.out).1] at hq
    rw [get_no ts hk] at hq
    have hqb := parts_bad ts _ _ _ _ rfl hq
    have HH := Lib.hid (And.intro hqb ho3)
    clear hq hqb ho3 hk ho2
    go_wp2_with (fail)
    exact ⟨rfl, part_thrown HH.out.1 HH.out.2⟩
  have hx := box_later HX.out ho2 (by have := HOLD.out.1; omega)
  have hy := ho2
  obtain ⟨⟨q0, q1, q2, q3, q4, q5, q6⟩, e0, e1, e2, e3, e4, e5, e6⟩ := cells7' hx
  have hx3 : (v1.setCell ⟨w1.heap.size, 5, none⟩ (.string (tel ts (i + 2)).s)).heap[w1.heap.size]? = some (.cells #[.int .u8 13, .int .u8 0, .int .i64 (tel ts i).a, .int .i64 0, .string (tel ts (i + 1)).s, .string (tel ts (i + 2)).s, .string ⟨#[]⟩] 26 (0, 0)) := set_block hx
  have hb3 : Below w1.heap.size v1 (v1.setCell ⟨w1.heap.size, 5, none⟩ (.string (tel ts (i + 2)).s)) := set_new _ _ _ _
  have ho3 := (HO.out.trans hy).then (hb3.mono hw1)
  have hp3 := hp2.keep hb3 (Nat.lt_of_lt_of_le HOLD.out.1 hw1) (Nat.lt_of_lt_of_le HOLD.out.2 hw1)
  have hr3 : (v1.setCell ⟨w1.heap.size, 5, none⟩ (.string (tel ts (i + 2)).s)).heap[w.heap.size]? = some (.cells #[.int .u8 0, .int .u8 0, .int .i64 0, .int .i64 0, .string ⟨#[]⟩, .string ⟨#[]⟩, .string ⟨#[]⟩, .slice none 0 0] 29 (0, 0)) := (hb3.block _ hlt).trans (box_later HRB0.out hy (by have := HOLD.out.1; omega))
  have HK1 := Lib.hid hk
  have HLT1 := Lib.hid (show i + 2 < n from by have := hp2.lt; omega)
  have hq3 := lt_of_block hx
  clear ho2 hp2 hk hy hx
  clear HO
  clear HX
  have HO := Lib.hid ho3; have HX := Lib.hid hx3; have HP1 := Lib.hid hp3; have HRB1 := Lib.hid hr3; have HB3 := Lib.hid hb3
  clear ho3 hx3 hp3 hr3 hb3
  go_wp2_with (fail)
  generalize hg : v1.setCell ⟨w1.heap.size, 5, none⟩ (.string (tel ts (i + 2)).s) = u1 at *
  clear hg HN HB3 q0 q1 q2 q3 q4 q5 q6 e0 e1 e2 e3 e4 e5 e6
  have hq := HQ.out
  rw [(get_ok ts HK0.out).1] at hq
  rw [(get_ok ts HK1.out).1] at hq
  obtain ⟨m1, r1, m2, r2, hm1, hm2, hr1, hr2, rfl⟩ := parts2 ts ne_e0.1 ne_e0.2.1 hq
  clear hq HQ
  have HR1 := Lib.hid hr1
  clear hr1
  have HR2 := Lib.hid hr2
  clear hr2
  refine wp_region_held_drew (S := fun W => W.heap[w1.heap.size]? = some (.cells #[.int .u8 13, .int .u8 0, .int .i64 (tel ts i).a, .int .i64 0, .string (tel ts (i + 1)).s, .string (tel ts (i + 2)).s, .string ⟨#[]⟩] 26 (0, 0))) (by kernel_rfl) HX.out (fun hHeld => ?_)
  refine wpAnyH_take (i := 0) (v := .agg #[.int .u8 13, .int .u8 0, .int .i64 (tel ts i).a, .int .i64 0, .string (tel ts (i + 1)).s, .string (tel ts (i + 2)).s, .string ⟨#[]⟩]) rfl (by kernel_rfl) (by kernel_rfl) (by kernel_rfl) (fun _ _ _ h => h) (Or.inl ⟨by rfl, ?_⟩) (by assumption) ?_
  · intro w' hSw
    obtain ⟨⟨q0, q1, q2, q3, q4, q5, q6⟩, e0, e1, e2, e3, e4, e5, e6⟩ := cells7' hSw
    go_simp
  try simp only [Act.put, List.setIfInBounds_toArray, List.set_cons_zero, List.set_cons_succ]
  refine wpAnyH_take (i := 1) (v := .pointer (some ⟨P, 0, none⟩)) rfl (by kernel_rfl) (by kernel_rfl) (by kernel_rfl) (fun _ _ _ h => h) (Or.inl ⟨by rfl, ?_⟩) (by assumption) ?_
  · intro w' hSw
    go_simp
  try simp only [Act.put, List.setIfInBounds_toArray, List.set_cons_zero, List.set_cons_succ]
  refine wpAnyH_take (i := 2) (v := .pointer (some ⟨P, 0, none⟩)) rfl (by kernel_rfl) (by kernel_rfl) (by kernel_rfl) (fun _ _ _ h => h) (Or.inl ⟨by rfl, ?_⟩) (by assumption) ?_
  · intro w' hSw
    go_simp
  try simp only [Act.put, List.setIfInBounds_toArray, List.set_cons_zero, List.set_cons_succ]
  refine wpAnyH_take (i := 3) (v := .func (.func 26) #[.pointer (some ⟨P, 0, none⟩)] #[]) rfl (by kernel_rfl) (by kernel_rfl) (by kernel_rfl) (fun _ _ _ h => h) (Or.inl ⟨by rfl, ?_⟩) (by assumption) ?_
  · intro w' hSw
    first | go_simp | rfl
  try simp only [Act.put, List.setIfInBounds_toArray, List.set_cons_zero, List.set_cons_succ]
  refine wpAnyH_take (i := 5) (v := .pointer (some ⟨P, 0, none⟩)) rfl (by kernel_rfl) (by kernel_rfl) (by kernel_rfl) (fun _ _ _ h => h) (Or.inl ⟨by rfl, ?_⟩) (by assumption) ?_
  · intro w' hSw
    go_simp
  try simp only [Act.put, List.setIfInBounds_toArray, List.set_cons_zero, List.set_cons_succ]
  refine wpAnyH_take (i := 6) (v := .pointer (some ⟨P, 0, none⟩)) rfl (by kernel_rfl) (by kernel_rfl) (by kernel_rfl) (fun _ _ _ h => h) (Or.inl ⟨by rfl, ?_⟩) (by assumption) ?_
  · intro w' hSw
    go_simp
  try simp only [Act.put, List.setIfInBounds_toArray, List.set_cons_zero, List.set_cons_succ]
  refine wpAnyH_take (i := 7) (v := .func (.func 26) #[.pointer (some ⟨P, 0, none⟩)] #[]) rfl (by kernel_rfl) (by kernel_rfl) (by kernel_rfl) (fun _ _ _ h => h) (Or.inl ⟨by rfl, ?_⟩) (by assumption) ?_
  · intro w' hSw
    first | go_simp | rfl
  try simp only [Act.put, List.setIfInBounds_toArray, List.set_cons_zero, List.set_cons_succ]
  have HOc : Hid (Off P w u1.drew) := Lib.hid ⟨HO.out.os, HO.out.tape, HO.out.output, HO.out.size, HO.out.block⟩
  have HPc : Hid (PR u1.drew P g n c (i + 3) ts) := Lib.hid (HP1.out.keep (B := u1.heap.size) ((Below.refl _ _).drew) HP1.out.old.1 HP1.out.old.2)
  have HRc : Hid (u1.drew.heap[w.heap.size]? = some (.cells #[.int .u8 0, .int .u8 0, .int .i64 0, .int .i64 0, .string ⟨#[]⟩, .string ⟨#[]⟩, .string ⟨#[]⟩, .slice none 0 0] 29 (0, 0))) := HRB1
  have HSZ : Hid (w.heap.size < u1.drew.heap.size) := Lib.hid (Nat.lt_of_lt_of_le hlt (by have := lt_of_block HX.out; show w1.heap.size ≤ u1.heap.size; omega))
  refine wpAnyH_ready (rs := [4]) (by kernel_rfl) (by simp) ?_
  refine AllReadyH.cons rfl (fun K hK => ?_) AllReadyH.nil
  go_simp
  refine (behind_walk m1 (HE.out m1 hm1) _ P g n c (i + 3) ts wIs r1 HPc.out (HL.out.off HOc.out) (by simp [wordsL]) HR1.out).mono ?_
  rintro e y0 (⟨hbd, ⟨h0, p0, l0, d0, rfl, hT⟩, ho4, hp4⟩ | ⟨hbd, rfl, ho4⟩)
  rotate_left
  · have ho5 := HOc.out.trans ho4
    have hfin := then_bad ts hbd HR2.out
    have hq2 : r2.1 = ⟨r1.1.i, true⟩ := hfin.trans (bad_eq hbd)
    have HH := Lib.hid (And.intro hq2 ho5)
    clear hq2 ho5 ho4 hbd hfin
    unfold thrown strayV
    exact ⟨rfl, part_thrown HH.out.1 HH.out.2⟩
  have hX := box_later hHeld ho4 (by have := HOLD.out.1; omega)
  have HOn := Lib.hid (HOc.out.trans ho4); have HRn := Lib.hid (box_later HRc.out ho4 (by have := HOLD.out.1; omega)); have HTM0 := Lib.hid hT; have HBD1 := Lib.hid hbd; have HPn := Lib.hid hp4; have HSZ0 := HSZ; have HSn := Lib.hid (Nat.lt_of_lt_of_le HSZ.out ho4.size); have HOK0 := Lib.hid ho4
  clear HOc HPc HRc hT hbd hp4 ho4 HSZ hHeld
  have HOc := HOn; have HPc := HPn; have HRc := HRn; have HSZ := HSn
  clear HOn HPn HRn HSn
  refine hK.out _ _ hX (fun hHeld => ?_)
  try simp only [Act.put, List.setIfInBounds_toArray, List.set_cons_zero, List.set_cons_succ]
  clear hK hX K
  refine wpAnyH_ready (rs := [8]) (by kernel_rfl) (by simp) ?_
  refine AllReadyH.cons rfl (fun K hK => ?_) AllReadyH.nil
  go_simp
  refine (behind_walk m2 (HE.out m2 hm2) _ P g n c (r1.1.i) ts wIn r2 HPc.out (HL.out.off HOc.out) (by simp [wordsL]) (by have := HR2.out; rw [good_eq HBD1.out] at this; exact this)).mono ?_
  rintro e y1 (⟨hbd, ⟨h1, p1, l1, d1, rfl, hT⟩, ho4, hp4⟩ | ⟨hbd, rfl, ho4⟩)
  rotate_left
  · have ho5 := HOc.out.trans ho4
    have HH := Lib.hid (And.intro (bad_eq hbd) ho5)
    clear ho5 ho4 hbd
    unfold thrown strayV
    exact ⟨rfl, part_thrown HH.out.1 HH.out.2⟩
  have hX := box_later hHeld ho4 (by have := HOLD.out.1; omega)
  have HOn := Lib.hid (HOc.out.trans ho4); have HRn := Lib.hid (box_later HRc.out ho4 (by have := HOLD.out.1; omega)); have HTM1 := Lib.hid hT; have HBD2 := Lib.hid hbd; have HPn := Lib.hid hp4; have HSZ1 := HSZ; have HSn := Lib.hid (Nat.lt_of_lt_of_le HSZ.out ho4.size); have HOK1 := Lib.hid ho4
  clear HOc HPc HRc hT hbd hp4 ho4 HSZ hHeld
  have HOc := HOn; have HPc := HPn; have HRc := HRn; have HSZ := HSn
  clear HOn HPn HRn HSn
  refine hK.out _ _ hX (fun hHeld => ?_)
  try simp only [Act.put, List.setIfInBounds_toArray, List.set_cons_zero, List.set_cons_succ]
  clear hK hX K
  refine wpAnyH_ready (rs := [9]) (by kernel_rfl) (by simp) ?_
  refine AllReadyH.cons rfl (fun K hK => ?_) AllReadyH.nil
  go_simp
  have hX := (Below.heap_alloc y1 (.cells #[.int .u8 h0.k, .int .u8 h0.op, .int .i64 h0.pl, .int .i64 h0.n, .string h0.name, .string h0.arg, .string h0.exn, .slice p0 l0 d0, .int .u8 h1.k, .int .u8 h1.op, .int .i64 h1.pl, .int .i64 h1.n, .string h1.name, .string h1.arg, .string h1.exn, .slice p1 l1 d1] 29) _ (lt_of_block hHeld)).trans hHeld
  refine hK.out _ _ hX (fun hHeld => ?_)
  try simp only [Act.put, List.setIfInBounds_toArray, List.set_cons_zero, List.set_cons_succ]
  clear hK hX K
  refine wpAnyH_ready (rs := [10]) (by kernel_rfl) (by simp) ?_
  refine AllReadyH.cons rfl (fun K hK => ?_) AllReadyH.nil
  go_simp
  refine (node_walk _ 13 0 (tel ts i).a 0 (tel ts (i + 1)).s (tel ts (i + 2)).s ⟨#[]⟩ (some ⟨y1.heap.size, 0, none⟩) 2 2).mono ?_
  rintro e z ⟨rfl, hbz⟩
  obtain ⟨hrow, hbz2⟩ := one_box hbz
  have hr := (hbz2.block _ HSZ.out).trans HRc.out
  obtain ⟨⟨r0, r1', r2', r3', r4', r5', r6', r7'⟩, f0, f1, f2, f3, f4, f5, f6, f7⟩ := cells8' hr
  have hX := (hbz.block _ (by have := lt_of_block hHeld; simpa using this)).trans hHeld
  have rl := lt_of_block hr
  have HROW := Lib.hid hrow; have HBZ := Lib.hid hbz2
  clear hrow hbz hbz2 hr hHeld
  refine hK.out _ _ hX (fun hHeld => ?_)
  try simp only [Act.put, List.setIfInBounds_toArray, List.set_cons_zero, List.set_cons_succ]
  clear hK hX K
  refine wpAnyH_ready (rs := [11]) (by kernel_rfl) (by simp) ?_
  refine AllReadyH.cons rfl (fun K hK => ?_) AllReadyH.nil
  have HH := Lib.hid hHeld
  clear hHeld
  go_simp
  refine hK.out _ _ ((set8_other _ _ _ _ _ _ _ _ _ _ _ (by omega)).trans HH.out) (fun hHeld => ?_)
  refine wpAnyH_done (by kernel_rfl) ?_ _
  clear hK hHeld K
  go_wp2_with (fail)
  refine bodyPost_ret (v := .agg #[.int .u8 13, .int .u8 0, .int .i64 (tel ts i).a, .int .i64 0, .string (tel ts (i + 1)).s, .string (tel ts (i + 2)).s, .string ⟨#[]⟩, .slice (some ⟨y1.heap.size, 0, none⟩) 2 2]) (by simp [results, Tryz.results53, go_sem, r0, r1', r2', r3', r4', r5', r6', r7']) rfl ?_
  refine node_end (xs := tcells h0 p0 l0 d0 ++ tcells h1 p1 l1 d1) (kids := [r1.2, r2.2]) HBD2.out (by simp only [(get_ok ts HK0.out).2, (get_ok ts HK1.out).2, (get_ok ts HK0.out).1, (get_ok ts HK1.out).1]; rfl) HROW.out HSZ.out ((Flat.one (kid_up HTM0.out HSZ0.out HOLD.out.1 (HOK1.out.trans (Off.of_below HBZ.out)))).append (Flat.one (kid_up HTM1.out HSZ1.out HOLD.out.1 (Off.of_below HBZ.out)))) rfl (by unfold maxLen; omega) (hd_any (by omega) HPL.out ?_ ?_ e0_small) (HOc.out.trans (Off.of_below HBZ.out)) (HPc.out.below HBZ.out) HOLD.out (fun k hk => set8_other _ _ _ _ _ _ _ _ _ _ _ hk) (Below.set8 w _ _ (Nat.le_refl _) _ _ _ _ _ _ _ _)
  · exact HTX.out (i + 1) (by have := HLT0.out; omega)
  · exact HTX.out (i + 2) (by have := HLT1.out; omega)
end Parse
end Go.Proofs.YtadpjkehflokcaaGreatDoor
namespace Go.Proofs.YtadpjkehflokcaaGreatDoor
open Go.RowKit
set_option linter.unusedVariables false
set_option linter.unusedSimpArgs false
namespace Parse
open Token (Tok tel ToksAt)
open Term (Tm Hd TmIs Kids ret_bool ret_i64 Reads veil Flat tcells)
open Words (str_no str_yes NumLaid)
open Chars (isin BytesAt)

set_option maxRecDepth 10000 in
set_option maxHeartbeats 12800000 in
theorem raise_walk (m : Nat) (hE : ∀ m', m' ≤ m → PE 156 unaryF m') (w : World) (P g n c i : Nat) (ts : List Tok) (q : St × Tm) (h : PR w P g n c i ts) (hL : Lay w P) (ht : textOf ts i = wRaise) (hq : unaryF ts m (getF ts (⟨i + 1, false⟩) 3) = some q) :
    Calls Tryz.prog 167 #[.pointer (some ⟨P, 0, none⟩)] w (PartEnd P g n c ts (q.1, .node ⟨15, 0, plA ts i, 0, ⟨#[]⟩, ⟨#[]⟩, (getS ts (⟨i + 1, false⟩) 3)⟩ [q.2]) w) := by
  have hne := text_not_end (x := wRaise) (by simp [wordsL]) ht
  have hbox : ∀ O : Obj, Below w.heap.size w (w.alloc O) := fun O => ((Below.refl _ _).alloc (Nat.le_refl _) O)
  have hhd := fun O => head_walk (w.alloc O) P g n c i ts 15 (h.below (hbox O)) hne
  have hold := h.old
  have hpl := h.pl
  have htx := h.row.texts
  have HHD := Lib.hid hhd; have HOLD := Lib.hid hold; have HL := Lib.hid hL; have HE := Lib.hid hE; have HQ := Lib.hid hq; have HPL := Lib.hid hpl; have HTX := Lib.hid htx
  unfold headV at HHD
  clear hhd h hbox hold hL hE hq hpl htx hne ht
  go_enter Tryz.func167, Tryz.ntmps167
  go_wp2_with (fail)
  refine (HHD.out _).mono ?_
  rintro e w1 ⟨rfl, ho, hp⟩
  obtain ⟨h3, h4⟩ := box_off ho HOLD.out.1
  have hbx1 : ∀ O : Obj, Below w1.heap.size w1 (w1.alloc O) := fun O => (Below.refl _ _).alloc (Nat.le_refl _) O
  have hn1 := fun O => exn_walk (w1.alloc O) P g n c (i + 1) ts (hp.below (hbx1 O))
  have hlt := lt_of_block h3
  have hw1 := h4.size
  have HR := Lib.hid h3; have HO := Lib.hid h4; have HN := Lib.hid hn1
  unfold NameEnd thrown strayV at HN
  clear ho hp h3 h4 hn1 hbx1
  go_wp2_with (fail)
  refine (HN.out _).mono ?_
  rintro e v0 (⟨hk, rfl, ho2, hp2⟩ | ⟨hk, rfl, ho2⟩)
  rotate_left
  · have ho3 := HO.out.trans (box_off ho2 (Nat.lt_of_lt_of_le HOLD.out.1 HO.out.size)).2
    have hq := HQ.out
    rw [get_no ts hk] at hq
    have hqb := unary_bad ts rfl hq
    have HH := Lib.hid (And.intro hqb ho3)
    clear hq hqb ho3 hk ho2
    go_wp2_with (fail)
    exact ⟨rfl, part_thrown HH.out.1 HH.out.2⟩
  obtain ⟨hx, hy⟩ := box_off ho2 (Nat.lt_of_lt_of_le HOLD.out.1 HO.out.size)
  obtain ⟨⟨q0, q1, q2, q3, q4, q5, q6⟩, e0, e1, e2, e3, e4, e5, e6⟩ := cells7' hx
  have hx3 : (v0.setCell ⟨w1.heap.size, 6, none⟩ (.string (tel ts (i + 1)).s)).heap[w1.heap.size]? = some (.cells #[.int .u8 15, .int .u8 0, .int .i64 (tel ts i).a, .int .i64 0, .string ⟨#[]⟩, .string ⟨#[]⟩, .string (tel ts (i + 1)).s] 26 (0, 0)) := set_block hx
  have hb3 : Below w1.heap.size v0 (v0.setCell ⟨w1.heap.size, 6, none⟩ (.string (tel ts (i + 1)).s)) := set_new _ _ _ _
  have ho3 := (HO.out.trans hy).then (hb3.mono hw1)
  have hp3 := hp2.keep hb3 (Nat.lt_of_lt_of_le HOLD.out.1 hw1) (Nat.lt_of_lt_of_le HOLD.out.2 hw1)
  have hr3 : (v0.setCell ⟨w1.heap.size, 6, none⟩ (.string (tel ts (i + 1)).s)).heap[w.heap.size]? = some (.cells #[.int .u8 0, .int .u8 0, .int .i64 0, .int .i64 0, .string ⟨#[]⟩, .string ⟨#[]⟩, .string ⟨#[]⟩, .slice none 0 0] 29 (0, 0)) := (hb3.block _ hlt).trans (box_later HR.out hy (by have := HOLD.out.1; omega))
  have HK0 := Lib.hid hk
  have HLT0 := Lib.hid (show i + 1 < n from by have := hp2.lt; omega)
  have hq3 := lt_of_block hx
  clear ho2 hp2 hk hy hx
  clear HO
  have HO := Lib.hid ho3; have HX := Lib.hid hx3; have HP0 := Lib.hid hp3; have HRB0 := Lib.hid hr3; have HB3 := Lib.hid hb3
  clear ho3 hx3 hp3 hr3 hb3
  go_wp2_with (fail)
  generalize hg : v0.setCell ⟨w1.heap.size, 6, none⟩ (.string (tel ts (i + 1)).s) = u0 at *
  clear hg HN HB3 q0 q1 q2 q3 q4 q5 q6 e0 e1 e2 e3 e4 e5 e6
  have hq := HQ.out
  rw [(get_ok ts HK0.out).1] at hq
  have hr1 := hq
  clear hq HQ
  have HR1 := Lib.hid hr1
  clear hr1
  refine wp_region_held_drew (S := fun W => W.heap[w1.heap.size]? = some (.cells #[.int .u8 15, .int .u8 0, .int .i64 (tel ts i).a, .int .i64 0, .string ⟨#[]⟩, .string ⟨#[]⟩, .string (tel ts (i + 1)).s] 26 (0, 0))) (by kernel_rfl) HX.out (fun hHeld => ?_)
  refine wpAnyH_take (i := 0) (v := .agg #[.int .u8 15, .int .u8 0, .int .i64 (tel ts i).a, .int .i64 0, .string ⟨#[]⟩, .string ⟨#[]⟩, .string (tel ts (i + 1)).s]) rfl (by kernel_rfl) (by kernel_rfl) (by kernel_rfl) (fun _ _ _ h => h) (Or.inl ⟨by rfl, ?_⟩) (by assumption) ?_
  · intro w' hSw
    obtain ⟨⟨q0, q1, q2, q3, q4, q5, q6⟩, e0, e1, e2, e3, e4, e5, e6⟩ := cells7' hSw
    go_simp
  try simp only [Act.put, List.setIfInBounds_toArray, List.set_cons_zero, List.set_cons_succ]
  refine wpAnyH_take (i := 1) (v := .pointer (some ⟨P, 0, none⟩)) rfl (by kernel_rfl) (by kernel_rfl) (by kernel_rfl) (fun _ _ _ h => h) (Or.inl ⟨by rfl, ?_⟩) (by assumption) ?_
  · intro w' hSw
    go_simp
  try simp only [Act.put, List.setIfInBounds_toArray, List.set_cons_zero, List.set_cons_succ]
  have HOc : Hid (Off P w u0.drew) := Lib.hid ⟨HO.out.os, HO.out.tape, HO.out.output, HO.out.size, HO.out.block⟩
  have HPc : Hid (PR u0.drew P g n c (i + 2) ts) := Lib.hid (HP0.out.keep (B := u0.heap.size) ((Below.refl _ _).drew) HP0.out.old.1 HP0.out.old.2)
  have HRc : Hid (u0.drew.heap[w.heap.size]? = some (.cells #[.int .u8 0, .int .u8 0, .int .i64 0, .int .i64 0, .string ⟨#[]⟩, .string ⟨#[]⟩, .string ⟨#[]⟩, .slice none 0 0] 29 (0, 0))) := HRB0
  have HSZ : Hid (w.heap.size < u0.drew.heap.size) := Lib.hid (Nat.lt_of_lt_of_le hlt (by have := lt_of_block HX.out; show w1.heap.size ≤ u0.heap.size; omega))
  refine wpAnyH_ready (rs := [2]) (by kernel_rfl) (by simp) ?_
  refine AllReadyH.cons rfl (fun K hK => ?_) AllReadyH.nil
  go_simp
  refine (HE.out m (Nat.le_refl _) _ P g n c (i + 2) ts q HPc.out (HL.out.off HOc.out) HR1.out).mono ?_
  rintro e y0 (⟨hbd, ⟨h0, p0, l0, d0, rfl, hT⟩, ho4, hp4⟩ | ⟨hbd, rfl, ho4⟩)
  rotate_left
  · have ho5 := HOc.out.trans ho4
    have HH := Lib.hid (And.intro (bad_eq hbd) ho5)
    clear ho5 ho4 hbd
    unfold thrown strayV
    exact ⟨rfl, part_thrown HH.out.1 HH.out.2⟩
  have hX := box_later hHeld ho4 (by have := HOLD.out.1; omega)
  have HOn := Lib.hid (HOc.out.trans ho4); have HRn := Lib.hid (box_later HRc.out ho4 (by have := HOLD.out.1; omega)); have HTM0 := Lib.hid hT; have HBD1 := Lib.hid hbd; have HPn := Lib.hid hp4; have HSZ0 := HSZ; have HSn := Lib.hid (Nat.lt_of_lt_of_le HSZ.out ho4.size); have HOK0 := Lib.hid ho4
  clear HOc HPc HRc hT hbd hp4 ho4 HSZ hHeld
  have HOc := HOn; have HPc := HPn; have HRc := HRn; have HSZ := HSn
  clear HOn HPn HRn HSn
  refine hK.out _ _ hX (fun hHeld => ?_)
  try simp only [Act.put, List.setIfInBounds_toArray, List.set_cons_zero, List.set_cons_succ]
  clear hK hX K
  refine wpAnyH_ready (rs := [3]) (by kernel_rfl) (by simp) ?_
  refine AllReadyH.cons rfl (fun K hK => ?_) AllReadyH.nil
  go_simp
  have hX := (Below.heap_alloc y0 (.cells #[.int .u8 h0.k, .int .u8 h0.op, .int .i64 h0.pl, .int .i64 h0.n, .string h0.name, .string h0.arg, .string h0.exn, .slice p0 l0 d0] 29) _ (lt_of_block hHeld)).trans hHeld
  refine hK.out _ _ hX (fun hHeld => ?_)
  try simp only [Act.put, List.setIfInBounds_toArray, List.set_cons_zero, List.set_cons_succ]
  clear hK hX K
  refine wpAnyH_ready (rs := [4]) (by kernel_rfl) (by simp) ?_
  refine AllReadyH.cons rfl (fun K hK => ?_) AllReadyH.nil
  go_simp
  refine (node_walk _ 15 0 (tel ts i).a 0 ⟨#[]⟩ ⟨#[]⟩ (tel ts (i + 1)).s (some ⟨y0.heap.size, 0, none⟩) 1 1).mono ?_
  rintro e z ⟨rfl, hbz⟩
  obtain ⟨hrow, hbz2⟩ := one_box hbz
  have hr := (hbz2.block _ HSZ.out).trans HRc.out
  obtain ⟨⟨r0, r1', r2', r3', r4', r5', r6', r7'⟩, f0, f1, f2, f3, f4, f5, f6, f7⟩ := cells8' hr
  have hX := (hbz.block _ (by have := lt_of_block hHeld; simpa using this)).trans hHeld
  have rl := lt_of_block hr
  have HROW := Lib.hid hrow; have HBZ := Lib.hid hbz2
  clear hrow hbz hbz2 hr hHeld
  refine hK.out _ _ hX (fun hHeld => ?_)
  try simp only [Act.put, List.setIfInBounds_toArray, List.set_cons_zero, List.set_cons_succ]
  clear hK hX K
  refine wpAnyH_ready (rs := [5]) (by kernel_rfl) (by simp) ?_
  refine AllReadyH.cons rfl (fun K hK => ?_) AllReadyH.nil
  have HH := Lib.hid hHeld
  clear hHeld
  go_simp
  refine hK.out _ _ ((set8_other _ _ _ _ _ _ _ _ _ _ _ (by omega)).trans HH.out) (fun hHeld => ?_)
  refine wpAnyH_done (by kernel_rfl) ?_ _
  clear hK hHeld K
  go_wp2_with (fail)
  refine bodyPost_ret (v := .agg #[.int .u8 15, .int .u8 0, .int .i64 (tel ts i).a, .int .i64 0, .string ⟨#[]⟩, .string ⟨#[]⟩, .string (tel ts (i + 1)).s, .slice (some ⟨y0.heap.size, 0, none⟩) 1 1]) (by simp [results, Tryz.results167, go_sem, r0, r1', r2', r3', r4', r5', r6', r7']) rfl ?_
  refine node_end (xs := tcells h0 p0 l0 d0) (kids := [q.2]) HBD1.out (by simp only [(get_ok ts HK0.out).2, (get_ok ts HK0.out).1]; rfl) HROW.out HSZ.out (Flat.one (kid_up HTM0.out HSZ0.out HOLD.out.1 (Off.of_below HBZ.out))) rfl (by unfold maxLen; omega) (hd_any (by omega) HPL.out e0_small e0_small ?_) (HOc.out.trans (Off.of_below HBZ.out)) (HPc.out.below HBZ.out) HOLD.out (fun k hk => set8_other _ _ _ _ _ _ _ _ _ _ _ hk) (Below.set8 w _ _ (Nat.le_refl _) _ _ _ _ _ _ _ _)
  · exact HTX.out (i + 1) (by have := HLT0.out; omega)
end Parse
end Go.Proofs.YtadpjkehflokcaaGreatDoor
