/- The document's walk for the first place that is not closed. -/
import Derived.Test.YtkcadkjpneoobaaDoorScopeRx
namespace Go.Proofs.YtkcadkjpneoobaaDoor
open Go.RowKit
set_option linter.unusedVariables false
set_option linter.unusedSimpArgs false
namespace Scope
open Term (Tm Hd TmIs ret_bool ret_i64 tget wt wts wts_cons wts_nil okT okK nodeB kidsN drop_tget)
open Words (str_no str_yes sel StrsAt)

/-- The first place, and whether there is one. -/
def badF (decl : List ByteArray) (V : List (List ByteArray × Hd)) : Int × Bool := match V.find? (fun p => !clN decl p.1 p.2) with
  | none => (0, false)
  | some p => (p.2.pl, true)
theorem badF_nil (decl : List ByteArray) : badF decl [] = (0, false) := rfl
theorem badF_app (decl : List ByteArray) (A B : List (List ByteArray × Hd)) : badF decl (A ++ B) = if (badF decl A).2 = true then badF decl A else badF decl B := by
  unfold badF
  rw [List.find?_append]
  cases hf : A.find? (fun p => !clN decl p.1 p.2) with
  | none => simp
  | some p => simp
theorem badF_cons (decl ns : List ByteArray) (h : Hd) (B : List (List ByteArray × Hd)) : badF decl ((ns, h) :: B) = if clN decl ns h = true then badF decl B else (h.pl, true) := by
  unfold badF
  rw [List.find?_cons]
  cases clN decl ns h <;> simp
theorem badF_zero {decl : List ByteArray} {V : List (List ByteArray × Hd)} (h : (badF decl V).2 = false) : badF decl V = (0, false) := by
  unfold badF at h ⊢
  cases hf : V.find? (fun p => !clN decl p.1 p.2) with
  | none => rfl
  | some p => rw [hf] at h; cases h
/-- What a node comes to, by its kind. -/
theorem cl_two {decl ns : List ByteArray} {h : Hd} {l : Nat} (hn : nodeB h l = true) (hk : h.k = 2) : clN decl ns h = hasB ns h.name := by
  have h1 := node_name hn hk
  have h2 := (node_exn hn).2 (by omega)
  unfold clN
  rw [decide_eq_true h2, Bool.true_or, Bool.and_true]
  cases hh : hasB ns h.name
  · rw [show freeP ns h = h.name from if_neg (by simp [hk, hh])]
    exact decide_eq_false h1
  · rw [show freeP ns h = ⟨#[]⟩ from if_pos (.inr hh)]
    exact decide_eq_true rfl
theorem cl_exn {decl ns : List ByteArray} {h : Hd} {l : Nat} (hn : nodeB h l = true) (hk : h.k = 15 ∨ h.k = 16) : clN decl ns h = hasB decl h.exn := by
  have h2 := (node_exn hn).1 hk
  unfold clN
  rw [show freeP ns h = ⟨#[]⟩ from if_pos (.inl (by omega)), decide_eq_true rfl, Bool.true_and, decide_eq_false h2, Bool.false_or]
theorem cl_other {decl ns : List ByteArray} {h : Hd} {l : Nat} (hn : nodeB h l = true) (h2 : h.k ≠ 2) (hk : ¬ (h.k = 15 ∨ h.k = 16)) : clN decl ns h = true := by
  have h3 := (node_exn hn).2 hk
  unfold clN
  rw [show freeP ns h = ⟨#[]⟩ from if_pos (.inl h2), decide_eq_true rfl, Bool.true_and, decide_eq_true h3, Bool.true_or]
def BadEnd (R : Int × Bool) (w : World) (e : Ending) (w' : World) : Prop := e = .returned (.tuple #[.int .i64 R.1, .bool R.2]) ∧ Below w.heap.size w w'
/-- What is left, ahead of kid j. -/
structure BdI (w : World) (C : Array Value) (t : Tm) (ns decl : List ByteArray) (fin : Int × Bool) (j : Nat) (wr : World) : Prop where
  below : Below (w.alloc (.cells C 27)).heap.size (w.alloc (.cells C 27)) wr
  eq : badF decl (visK (t.ks.drop j) t.h j ns) = fin

set_option maxRecDepth 100000 in
set_option maxHeartbeats 102400000 in
theorem badD_walk : ∀ (m : Nat) (t : Tm) (h : Hd) (q : Option Addr) (l c : Nat) (w : World) (vn ve : Value) (ns decl : List ByteArray), wt t ≤ m → TmIs w h q l c t → okT t = true → Rd w vn ns → Rd w ve decl → ns.length + 2 * wt t ≤ 75000 →
    Calls Tryd.prog 28 #[.agg #[.int .u8 h.k, .int .u8 h.op, .int .i64 h.pl, .int .i64 h.n, .string h.name, .string h.arg, .string h.exn, .slice q l c], vn, ve] w (BadEnd (badF decl (visT t ns)) w) := by
  intro m
  induction m with
  | zero => intro t h q l c w vn ve ns decl hm; have := Term.wt_pos t; omega
  | succ m ih =>
    intro t h q l c w vn ve ns decl hm hT hok hns hdc hnl
    have hwk := Term.wt_ks t
    obtain ⟨hnode, hkok⟩ := ok_parts hok
    have hth := hT.head
    have htl := hT.len
    have hal : Below w.heap.size w (w.alloc (.cells #[.int .u8 h.k, .int .u8 h.op, .int .i64 h.pl, .int .i64 h.n, .string h.name, .string h.arg, .string h.exn, .slice q l c] 27)) := (Below.refl _ _).alloc (Nat.le_refl _) _
    have hbx := heap_alloc_new w (.cells #[.int .u8 h.k, .int .u8 h.op, .int .i64 h.pl, .int .i64 h.n, .string h.name, .string h.arg, .string h.exn, .slice q l c] 27)
    have hfin : badF decl (visT t ns) = if clN decl ns h = true then badF decl (visK t.ks t.h 0 ns) else (h.pl, true) := by
      rw [visT_eq, badF_cons, hth]
    rw [hth, htl] at hnode
    have hlc : l ≤ 9223372036854775807 := by have := hT.cap; unfold maxLen at this; omega
    have hrn := hns.below hal
    have hrd := hdc.below hal
    generalize hF : badF decl (visT t ns) = FIN at *
    obtain ⟨k, op, pl, nn, nm, ar, ex⟩ := h
    have htwo := cl_two (decl := decl) (ns := ns) hnode
    have hexn := cl_exn (decl := decl) (ns := ns) hnode
    have hoth := cl_other (decl := decl) (ns := ns) hnode
    have IH := Lib.hid ih; have HM := Lib.hid hm; have HT := Lib.hid hT; have HKOK := Lib.hid hkok; have HND := Lib.hid hnode; have HAL := Lib.hid hal; have HBX := Lib.hid hbx; have HRN := Lib.hid hrn; have HRD := Lib.hid hrd; have HSL := Lib.hid (And.intro hnl (And.intro hwk (And.intro hth htl))); have HFIN := Lib.hid hfin
    have HTWO := Lib.hid htwo; have HEXN := Lib.hid hexn; have HOTH := Lib.hid hoth
    clear ih hm hT hkok hnode hal hbx hrn hrd hnl hwk hfin hns hdc hok hF htwo hexn hoth
    obtain ⟨⟨b0, b1, b2, b3, b4, b5, b6, b7⟩, f0, f1, f2, f3, f4, f5, f6, f7⟩ := cells8' HBX.out
    have bl := lt_of_block HBX.out
    have HIN := Lib.hid (rd_in HRN.out nm); have HIX := Lib.hid (rd_in HRD.out ex)
    have hbeg : clN decl ns ⟨k, op, pl, nn, nm, ar, ex⟩ = true → BdI w #[.int .u8 k, .int .u8 op, .int .i64 pl, .int .i64 nn, .string nm, .string ar, .string ex, .slice q l c] t ns decl FIN 0 (w.alloc (.cells #[.int .u8 k, .int .u8 op, .int .i64 pl, .int .i64 nn, .string nm, .string ar, .string ex, .slice q l c] 27)) := fun hc => ⟨Below.refl _ _, by rw [List.drop_zero]; have := HFIN.out; rw [if_pos hc] at this; exact this.symm⟩
    have hend : clN decl ns ⟨k, op, pl, nn, nm, ar, ex⟩ = false → FIN = (pl, true) := fun hc => by have := HFIN.out; rw [if_neg (by rw [hc]; simp)] at this; exact this
    have HBEG := Lib.hid hbeg; have HEND := Lib.hid hend
    clear hbeg hend HFIN
    go_enter Tryd.func28, Tryd.ntmps28
    by_cases k2 : k = 2
    · have e2 : (k == 2) = true := by simpa using k2
      have e15 : (k == 15) = false := by simp [k2]
      have e16 : (k == 16) = false := by simp [k2]
      have hc := HTWO.out k2
      cases hh : hasB ns nm
      · rw [hh] at HIN
        have HE := Lib.hid (HEND.out (hc.trans hh))
        clear k2 hc hh HBEG HEND HTWO HEXN HOTH
        go_wp2_with (fail)
        refine HIN.out.mono ?_
        rintro e w1 ⟨rfl, rfl⟩
        go_wp2_with (fail)
        refine bodyPost_ret (v := .tuple #[.int .i64 pl, .bool true]) (by simp [results, Tryd.results28, go_sem]) rfl ⟨by rw [HE.out], HAL.out⟩
      · rw [hh] at HIN
        have HST := Lib.hid (HBEG.out (hc.trans hh))
        clear k2 hc hh HBEG HEND HTWO HEXN HOTH
        go_wp2_with (fail)
        refine HIN.out.mono ?_
        rintro e w1 ⟨rfl, rfl⟩
        go_wp2_with (fail)
        clear b0 b1 b2 b3 b4 b5 b6 b7 f0 f1 f2 f3 f4 f5 f6 f7 bl
        go_loopw [8, 9, 10, 49] (fun _ _ _ i wr => ∃ (j : Nat), j ≤ l ∧ i = .int .i64 j ∧ Hid (BdI w #[.int .u8 k, .int .u8 op, .int .i64 pl, .int .i64 nn, .string nm, .string ar, .string ex, .slice q l c] t ns decl FIN j wr)) (fun _ _ _ i _ => l - (intOf i).toNat)
        case atStart => exact ⟨0, Nat.zero_le _, rfl, HST⟩
        case round =>
          obtain ⟨j, hj, rfl, HI⟩ := hrel
          have hwr := HAL.out.trans (HI.out.below.mono HAL.out.size)
          have hbx := (HI.out.below.block _ (lt_of_block HBX.out)).trans HBX.out
          by_cases hlt : j < l
          · have hjk : j < t.ks.length := by rw [HSL.out.2.2.2]; exact hlt
            obtain ⟨b, o, qk, ck, rfl, hkid, c0, c1, c2, c3, c4, c5, c6, c7⟩ := (HT.out.below hwr).kids.get j hjk
            have hks : KidS w #[.int .u8 k, .int .u8 op, .int .i64 pl, .int .i64 nn, .string nm, .string ar, .string ex, .slice (some ⟨b, o, none⟩) l c] b (o + j * 8) [.int .u8 (tget t.ks j).h.k, .int .u8 (tget t.ks j).h.op, .int .i64 (tget t.ks j).h.pl, .int .i64 (tget t.ks j).h.n, .string (tget t.ks j).h.name, .string (tget t.ks j).h.arg, .string (tget t.ks j).h.exn, .slice qk (tget t.ks j).ks.length ck] wr := ⟨hbx, kid_cells (K := 0) c0 c1 c2 c3 c4 c5 c6 c7, hwr⟩
            have hdr := drop_tget t.ks j hjk
            have hfe := HI.out.eq
            rw [hdr] at hfe
            rw [visK_cons, badF_app] at hfe
            have hwg := Term.wts_get hjk
            have HKS := Lib.hid hks; have HKID := Lib.hid hkid; have HFE := Lib.hid hfe; have HJK := Lib.hid hjk; have HWG := Lib.hid hwg
            clear hks hkid hfe hjk hwg hdr hwr hbx c0 c1 c2 c3 c4 c5 c6 c7
            go_wp2_with (fail)
            refine wp_region_held_drew (S := fun V => KidS w #[.int .u8 k, .int .u8 op, .int .i64 pl, .int .i64 nn, .string nm, .string ar, .string ex, .slice (some ⟨b, o, none⟩) l c] b (o + j * 8) [.int .u8 (tget t.ks j).h.k, .int .u8 (tget t.ks j).h.op, .int .i64 (tget t.ks j).h.pl, .int .i64 (tget t.ks j).h.n, .string (tget t.ks j).h.name, .string (tget t.ks j).h.arg, .string (tget t.ks j).h.exn, .slice qk (tget t.ks j).ks.length ck] V ∧ Below wr.heap.size wr V) (by kernel_rfl) ⟨HKS.out.later (Below.refl _ _).drew, (Below.refl _ _).drew⟩ (fun hHeld => ?_)
            have HS0 : Hid (KidS w #[.int .u8 k, .int .u8 op, .int .i64 pl, .int .i64 nn, .string nm, .string ar, .string ex, .slice (some ⟨b, o, none⟩) l c] b (o + j * 8) [.int .u8 (tget t.ks j).h.k, .int .u8 (tget t.ks j).h.op, .int .i64 (tget t.ks j).h.pl, .int .i64 (tget t.ks j).h.n, .string (tget t.ks j).h.name, .string (tget t.ks j).h.arg, .string (tget t.ks j).h.exn, .slice qk (tget t.ks j).ks.length ck] wr.drew ∧ Below wr.heap.size wr wr.drew) := Lib.hid ⟨HKS.out.later (Below.refl _ _).drew, (Below.refl _ _).drew⟩
            clear HKS
            generalize wr.drew = v0 at *
            refine wpAnyH_take (i := 0) (v := .pointer (some ⟨w.heap.size, 7, none⟩)) rfl (by kernel_rfl) (by kernel_rfl) (by kernel_rfl) (fun _ _ _ h => h) (Or.inl ⟨by rfl, ?_⟩) (by assumption) ?_
            · intro w' hSw
              obtain ⟨⟨g0, g1, g2, g3, g4, g5, g6, g7⟩, d0, d1, d2, d3, d4, d5, d6, d7⟩ := cells8' hSw.1.box
              have c0 := hSw.1.kid 0 _ rfl; have c1 := hSw.1.kid 1 _ rfl; have c2 := hSw.1.kid 2 _ rfl; have c3 := hSw.1.kid 3 _ rfl; have c4 := hSw.1.kid 4 _ rfl; have c5 := hSw.1.kid 5 _ rfl; have c6 := hSw.1.kid 6 _ rfl; have c7 := hSw.1.kid 7 _ rfl
              simp only [Nat.add_zero] at c0
              first | go_simp | rfl
            try simp only [Act.put, List.getElem_toArray, List.getElem_cons_succ, List.getElem_cons_zero, List.setIfInBounds_toArray, List.set_cons_zero, List.set_cons_succ]
            refine wpAnyH_take (i := 1) (v := .slice (some ⟨b, o, none⟩) l c) rfl (by kernel_rfl) (by kernel_rfl) (by kernel_rfl) (fun _ _ _ h => h) (Or.inl ⟨by rfl, ?_⟩) (by assumption) ?_
            · intro w' hSw
              obtain ⟨⟨g0, g1, g2, g3, g4, g5, g6, g7⟩, d0, d1, d2, d3, d4, d5, d6, d7⟩ := cells8' hSw.1.box
              have c0 := hSw.1.kid 0 _ rfl; have c1 := hSw.1.kid 1 _ rfl; have c2 := hSw.1.kid 2 _ rfl; have c3 := hSw.1.kid 3 _ rfl; have c4 := hSw.1.kid 4 _ rfl; have c5 := hSw.1.kid 5 _ rfl; have c6 := hSw.1.kid 6 _ rfl; have c7 := hSw.1.kid 7 _ rfl
              simp only [Nat.add_zero] at c0
              first | go_simp | rfl
            try simp only [Act.put, List.getElem_toArray, List.getElem_cons_succ, List.getElem_cons_zero, List.setIfInBounds_toArray, List.set_cons_zero, List.set_cons_succ]
            refine wpAnyH_take (i := 2) (v := .int .i64 (j : Int)) rfl (by kernel_rfl) (by kernel_rfl) (by kernel_rfl) (fun _ _ _ h => h) (Or.inl ⟨by rfl, ?_⟩) (by assumption) ?_
            · intro w' hSw
              obtain ⟨⟨g0, g1, g2, g3, g4, g5, g6, g7⟩, d0, d1, d2, d3, d4, d5, d6, d7⟩ := cells8' hSw.1.box
              have c0 := hSw.1.kid 0 _ rfl; have c1 := hSw.1.kid 1 _ rfl; have c2 := hSw.1.kid 2 _ rfl; have c3 := hSw.1.kid 3 _ rfl; have c4 := hSw.1.kid 4 _ rfl; have c5 := hSw.1.kid 5 _ rfl; have c6 := hSw.1.kid 6 _ rfl; have c7 := hSw.1.kid 7 _ rfl
              simp only [Nat.add_zero] at c0
              first | go_simp | rfl
            try simp only [Act.put, List.getElem_toArray, List.getElem_cons_succ, List.getElem_cons_zero, List.setIfInBounds_toArray, List.set_cons_zero, List.set_cons_succ]
            refine wpAnyH_take (i := 3) (v := .pointer (some ⟨b, o + j * 8, none⟩)) rfl (by kernel_rfl) (by kernel_rfl) (by kernel_rfl) (fun _ _ _ h => h) (Or.inl ⟨by rfl, ?_⟩) (by assumption) ?_
            · intro w' hSw
              obtain ⟨⟨g0, g1, g2, g3, g4, g5, g6, g7⟩, d0, d1, d2, d3, d4, d5, d6, d7⟩ := cells8' hSw.1.box
              have c0 := hSw.1.kid 0 _ rfl; have c1 := hSw.1.kid 1 _ rfl; have c2 := hSw.1.kid 2 _ rfl; have c3 := hSw.1.kid 3 _ rfl; have c4 := hSw.1.kid 4 _ rfl; have c5 := hSw.1.kid 5 _ rfl; have c6 := hSw.1.kid 6 _ rfl; have c7 := hSw.1.kid 7 _ rfl
              simp only [Nat.add_zero] at c0
              first | go_simp | rfl
            try simp only [Act.put, List.getElem_toArray, List.getElem_cons_succ, List.getElem_cons_zero, List.setIfInBounds_toArray, List.set_cons_zero, List.set_cons_succ]
            refine wpAnyH_take (i := 4) (v := .agg #[.int .u8 (tget t.ks j).h.k, .int .u8 (tget t.ks j).h.op, .int .i64 (tget t.ks j).h.pl, .int .i64 (tget t.ks j).h.n, .string (tget t.ks j).h.name, .string (tget t.ks j).h.arg, .string (tget t.ks j).h.exn, .slice qk (tget t.ks j).ks.length ck]) rfl (by kernel_rfl) (by kernel_rfl) (by kernel_rfl) (fun _ _ _ h => h) (Or.inl ⟨by rfl, ?_⟩) (by assumption) ?_
            · intro w' hSw
              obtain ⟨⟨g0, g1, g2, g3, g4, g5, g6, g7⟩, d0, d1, d2, d3, d4, d5, d6, d7⟩ := cells8' hSw.1.box
              have c0 := hSw.1.kid 0 _ rfl; have c1 := hSw.1.kid 1 _ rfl; have c2 := hSw.1.kid 2 _ rfl; have c3 := hSw.1.kid 3 _ rfl; have c4 := hSw.1.kid 4 _ rfl; have c5 := hSw.1.kid 5 _ rfl; have c6 := hSw.1.kid 6 _ rfl; have c7 := hSw.1.kid 7 _ rfl
              simp only [Nat.add_zero] at c0
              first | go_simp | rfl
            try simp only [Act.put, List.getElem_toArray, List.getElem_cons_succ, List.getElem_cons_zero, List.setIfInBounds_toArray, List.set_cons_zero, List.set_cons_succ]
            refine wpAnyH_take (i := 5) (v := vn) rfl (by kernel_rfl) (by kernel_rfl) (by kernel_rfl) (fun _ _ _ h => h) (Or.inl ⟨by rfl, ?_⟩) (by assumption) ?_
            · intro w' hSw
              obtain ⟨⟨g0, g1, g2, g3, g4, g5, g6, g7⟩, d0, d1, d2, d3, d4, d5, d6, d7⟩ := cells8' hSw.1.box
              have c0 := hSw.1.kid 0 _ rfl; have c1 := hSw.1.kid 1 _ rfl; have c2 := hSw.1.kid 2 _ rfl; have c3 := hSw.1.kid 3 _ rfl; have c4 := hSw.1.kid 4 _ rfl; have c5 := hSw.1.kid 5 _ rfl; have c6 := hSw.1.kid 6 _ rfl; have c7 := hSw.1.kid 7 _ rfl
              simp only [Nat.add_zero] at c0
              first | go_simp | rfl
            try simp only [Act.put, List.getElem_toArray, List.getElem_cons_succ, List.getElem_cons_zero, List.setIfInBounds_toArray, List.set_cons_zero, List.set_cons_succ]
            refine wpAnyH_take (i := 6) (v := .agg #[.int .u8 k, .int .u8 op, .int .i64 pl, .int .i64 nn, .string nm, .string ar, .string ex, .slice (some ⟨b, o, none⟩) l c]) rfl (by kernel_rfl) (by kernel_rfl) (by kernel_rfl) (fun _ _ _ h => h) (Or.inl ⟨by rfl, ?_⟩) (by assumption) ?_
            · intro w' hSw
              obtain ⟨⟨g0, g1, g2, g3, g4, g5, g6, g7⟩, d0, d1, d2, d3, d4, d5, d6, d7⟩ := cells8' hSw.1.box
              have c0 := hSw.1.kid 0 _ rfl; have c1 := hSw.1.kid 1 _ rfl; have c2 := hSw.1.kid 2 _ rfl; have c3 := hSw.1.kid 3 _ rfl; have c4 := hSw.1.kid 4 _ rfl; have c5 := hSw.1.kid 5 _ rfl; have c6 := hSw.1.kid 6 _ rfl; have c7 := hSw.1.kid 7 _ rfl
              simp only [Nat.add_zero] at c0
              first | go_simp | rfl
            try simp only [Act.put, List.getElem_toArray, List.getElem_cons_succ, List.getElem_cons_zero, List.setIfInBounds_toArray, List.set_cons_zero, List.set_cons_succ]
            refine wpAnyH_take (i := 7) (v := .int .i64 (j : Int)) rfl (by kernel_rfl) (by kernel_rfl) (by kernel_rfl) (fun _ _ _ h => h) (Or.inl ⟨by rfl, ?_⟩) (by assumption) ?_
            · intro w' hSw
              obtain ⟨⟨g0, g1, g2, g3, g4, g5, g6, g7⟩, d0, d1, d2, d3, d4, d5, d6, d7⟩ := cells8' hSw.1.box
              have c0 := hSw.1.kid 0 _ rfl; have c1 := hSw.1.kid 1 _ rfl; have c2 := hSw.1.kid 2 _ rfl; have c3 := hSw.1.kid 3 _ rfl; have c4 := hSw.1.kid 4 _ rfl; have c5 := hSw.1.kid 5 _ rfl; have c6 := hSw.1.kid 6 _ rfl; have c7 := hSw.1.kid 7 _ rfl
              simp only [Nat.add_zero] at c0
              first | go_simp | rfl
            try simp only [Act.put, List.getElem_toArray, List.getElem_cons_succ, List.getElem_cons_zero, List.setIfInBounds_toArray, List.set_cons_zero, List.set_cons_succ]
            refine wpAnyH_take (i := 9) (v := ve) rfl (by kernel_rfl) (by kernel_rfl) (by kernel_rfl) (fun _ _ _ h => h) (Or.inl ⟨by rfl, ?_⟩) (by assumption) ?_
            · intro w' hSw
              obtain ⟨⟨g0, g1, g2, g3, g4, g5, g6, g7⟩, d0, d1, d2, d3, d4, d5, d6, d7⟩ := cells8' hSw.1.box
              have c0 := hSw.1.kid 0 _ rfl; have c1 := hSw.1.kid 1 _ rfl; have c2 := hSw.1.kid 2 _ rfl; have c3 := hSw.1.kid 3 _ rfl; have c4 := hSw.1.kid 4 _ rfl; have c5 := hSw.1.kid 5 _ rfl; have c6 := hSw.1.kid 6 _ rfl; have c7 := hSw.1.kid 7 _ rfl
              simp only [Nat.add_zero] at c0
              first | go_simp | rfl
            try simp only [Act.put, List.getElem_toArray, List.getElem_cons_succ, List.getElem_cons_zero, List.setIfInBounds_toArray, List.set_cons_zero, List.set_cons_succ]
            refine wpAnyH_ready (rs := [8]) (by kernel_rfl) (by simp) ?_
            refine AllReadyH.cons rfl (fun K hK => ?_) AllReadyH.nil
            have HK2 := Lib.hid hK
            clear hK
            go_simp
            refine (boundD_walk v0 vn ns k op pl nn nm ar ex (some ⟨b, o, none⟩) l c j (HRN.out.below (HI.out.below.trans (HS0.out.2.mono HI.out.below.size))) (by have := HSL.out.1; omega) (fun hk => kids13 HND.out hlt hk)).mono ?_
            rintro e w1 ⟨v1, rfl, h1, h2⟩
            have hs1 := And.intro (HS0.out.1.later h2) (HS0.out.2.trans (h2.mono HS0.out.2.size))
            refine HK2.out _ _ hs1 (fun hHeld => ?_)
            have HS1 := Lib.hid hs1; have HR1 := Lib.hid h1; have HB1 := Lib.hid h2
            clear HK2 hs1 h1 h2
            try simp only [Act.put, List.getElem_toArray, List.getElem_cons_succ, List.getElem_cons_zero, List.setIfInBounds_toArray, List.set_cons_zero, List.set_cons_succ]
            clear K
            refine wpAnyH_ready (rs := [10]) (by kernel_rfl) (by simp) ?_
            refine AllReadyH.cons rfl (fun K hK => ?_) AllReadyH.nil
            have HK2 := Lib.hid hK
            clear hK
            go_simp
            refine (IH.out (tget t.ks j) _ qk _ ck w1 v1 ve (boundP ns ⟨k, op, pl, nn, nm, ar, ex⟩ j) decl (by have := HM.out; have := HSL.out.2.1; have := HWG.out; omega) (HKID.out.below HS1.out.2) (ok_kid HKOK.out HJK.out) HR1.out (HRD.out.below (HI.out.below.trans (HS1.out.2.mono HI.out.below.size))) (by have := boundP_len ns ⟨k, op, pl, nn, nm, ar, ex⟩ j; have := HSL.out; have := HWG.out; omega)).mono ?_
            rintro e w2 ⟨rfl, h2⟩
            have hs2 := And.intro (HS1.out.1.later h2) (HS1.out.2.trans (h2.mono HS1.out.2.size))
            refine HK2.out _ _ hs2 (fun hHeld => ?_)
            have HS2 := Lib.hid hs2; have HB2 := Lib.hid h2
            clear HK2 hs2 h2
            try simp only [Act.put, List.getElem_toArray, List.getElem_cons_succ, List.getElem_cons_zero, List.setIfInBounds_toArray, List.set_cons_zero, List.set_cons_succ]
            clear K
            have hfe := HFE.out
            rw [HSL.out.2.2.1] at hfe
            generalize hR : badF decl (visT (tget t.ks j) (boundP ns ⟨k, op, pl, nn, nm, ar, ex⟩ j)) = R at *
            obtain ⟨R1, R2⟩ := R
            have hz := fun (h : R2 = false) => badF_zero (decl := decl) (V := visT (tget t.ks j) (boundP ns ⟨k, op, pl, nn, nm, ar, ex⟩ j)) (by rw [hR]; exact h)
            rw [hR] at hz
            have HFE2 := Lib.hid hfe; have HZ := Lib.hid hz
            clear hfe hz hR HFE
            refine wpAnyH_take (i := 11) (v := .tuple #[.int .i64 R1, .bool R2]) rfl (by kernel_rfl) (by kernel_rfl) (by kernel_rfl) (fun _ _ _ h => h) (Or.inl ⟨by rfl, ?_⟩) (by assumption) ?_
            · intro w' hSw
              obtain ⟨⟨g0, g1, g2, g3, g4, g5, g6, g7⟩, d0, d1, d2, d3, d4, d5, d6, d7⟩ := cells8' hSw.1.box
              have c0 := hSw.1.kid 0 _ rfl; have c1 := hSw.1.kid 1 _ rfl; have c2 := hSw.1.kid 2 _ rfl; have c3 := hSw.1.kid 3 _ rfl; have c4 := hSw.1.kid 4 _ rfl; have c5 := hSw.1.kid 5 _ rfl; have c6 := hSw.1.kid 6 _ rfl; have c7 := hSw.1.kid 7 _ rfl
              simp only [Nat.add_zero] at c0
              first | go_simp | rfl
            try simp only [Act.put, List.getElem_toArray, List.getElem_cons_succ, List.getElem_cons_zero, List.setIfInBounds_toArray, List.set_cons_zero, List.set_cons_succ]
            refine wpAnyH_take (i := 12) (v := .int .i64 R1) rfl (by kernel_rfl) (by kernel_rfl) (by kernel_rfl) (fun _ _ _ h => h) (Or.inl ⟨by rfl, ?_⟩) (by assumption) ?_
            · intro w' hSw
              obtain ⟨⟨g0, g1, g2, g3, g4, g5, g6, g7⟩, d0, d1, d2, d3, d4, d5, d6, d7⟩ := cells8' hSw.1.box
              have c0 := hSw.1.kid 0 _ rfl; have c1 := hSw.1.kid 1 _ rfl; have c2 := hSw.1.kid 2 _ rfl; have c3 := hSw.1.kid 3 _ rfl; have c4 := hSw.1.kid 4 _ rfl; have c5 := hSw.1.kid 5 _ rfl; have c6 := hSw.1.kid 6 _ rfl; have c7 := hSw.1.kid 7 _ rfl
              simp only [Nat.add_zero] at c0
              first | go_simp | rfl
            try simp only [Act.put, List.getElem_toArray, List.getElem_cons_succ, List.getElem_cons_zero, List.setIfInBounds_toArray, List.set_cons_zero, List.set_cons_succ]
            refine wpAnyH_take (i := 13) (v := .bool R2) rfl (by kernel_rfl) (by kernel_rfl) (by kernel_rfl) (fun _ _ _ h => h) (Or.inl ⟨by rfl, ?_⟩) (by assumption) ?_
            · intro w' hSw
              obtain ⟨⟨g0, g1, g2, g3, g4, g5, g6, g7⟩, d0, d1, d2, d3, d4, d5, d6, d7⟩ := cells8' hSw.1.box
              have c0 := hSw.1.kid 0 _ rfl; have c1 := hSw.1.kid 1 _ rfl; have c2 := hSw.1.kid 2 _ rfl; have c3 := hSw.1.kid 3 _ rfl; have c4 := hSw.1.kid 4 _ rfl; have c5 := hSw.1.kid 5 _ rfl; have c6 := hSw.1.kid 6 _ rfl; have c7 := hSw.1.kid 7 _ rfl
              simp only [Nat.add_zero] at c0
              first | go_simp | rfl
            try simp only [Act.put, List.getElem_toArray, List.getElem_cons_succ, List.getElem_cons_zero, List.setIfInBounds_toArray, List.set_cons_zero, List.set_cons_succ]
            refine wpAnyH_ready (rs := [14]) (by kernel_rfl) (by simp) ?_
            refine AllReadyH.cons rfl (fun K hK => ?_) AllReadyH.nil
            have HK2 := Lib.hid hK
            clear hK
            go_simp
            refine HK2.out _ _ HS2.out (fun hHeld => ?_)
            clear HK2
            try simp only [Act.put, List.getElem_toArray, List.getElem_cons_succ, List.getElem_cons_zero, List.setIfInBounds_toArray, List.set_cons_zero, List.set_cons_succ]
            clear K
            refine wpAnyH_ready (rs := [15]) (by kernel_rfl) (by simp) ?_
            refine AllReadyH.cons rfl (fun K hK => ?_) AllReadyH.nil
            have HK2 := Lib.hid hK
            clear hK
            go_simp
            refine HK2.out _ _ HS2.out (fun hHeld => ?_)
            clear HK2
            try simp only [Act.put, List.getElem_toArray, List.getElem_cons_succ, List.getElem_cons_zero, List.setIfInBounds_toArray, List.set_cons_zero, List.set_cons_succ]
            clear K
            refine wpAnyH_done (by kernel_rfl) ?_ _
            clear hHeld
            cases R2
            · have hfe := HFE2.out
              rw [if_neg (by simp)] at hfe
              have hnx : BdI w #[.int .u8 k, .int .u8 op, .int .i64 pl, .int .i64 nn, .string nm, .string ar, .string ex, .slice (some ⟨b, o, none⟩) l c] t ns decl FIN (j + 1) w2 := ⟨HI.out.below.trans (HS2.out.2.mono HI.out.below.size), by rw [HSL.out.2.2.1]; exact hfe⟩
              have HNX := Lib.hid hnx
              clear hnx hfe
              go_wp2_with (fail)
              go_roundw
              case rel => exact ⟨j + 1, by omega, by go_num, HNX⟩
              case measure => simp [intOf]; omega
            · have hfe := HFE2.out
              rw [if_pos rfl] at hfe
              have HFF := Lib.hid hfe
              clear hfe
              go_wp2_with (fail)
              refine bodyPost_ret (v := .tuple #[.int .i64 R1, .bool true]) (by simp [results, Tryd.results28, go_sem]) rfl ⟨by rw [← HFF.out], HS2.out.1.below⟩
          · obtain rfl : j = l := by omega
            have hfe := HI.out.eq
            rw [List.drop_eq_nil_of_le (by rw [HSL.out.2.2.2]; exact Nat.le_refl _), visK_nil, badF_nil] at hfe
            have HFE := Lib.hid hfe; have HWR := Lib.hid hwr
            clear hfe hwr hbx
            go_wp2_with (fail)
            refine bodyPost_ret (v := .tuple #[.int .i64 0, .bool false]) (by simp [results, Tryd.results28, go_sem]) rfl ⟨by rw [← HFE.out], HWR.out⟩
    have e2 : (k == 2) = false := by simpa using k2
    by_cases k15 : k = 15
    · have e15 : (k == 15) = true := by simpa using k15
      have hc := HEXN.out (.inl k15)
      cases hh : hasB decl ex
      · rw [hh] at HIX
        have HE := Lib.hid (HEND.out (hc.trans hh))
        clear k15 k2 hc hh HBEG HEND HTWO HEXN HOTH
        go_wp2_with (fail)
        refine HIX.out.mono ?_
        rintro e w1 ⟨rfl, rfl⟩
        go_wp2_with (fail)
        refine bodyPost_ret (v := .tuple #[.int .i64 pl, .bool true]) (by simp [results, Tryd.results28, go_sem]) rfl ⟨by rw [HE.out], HAL.out⟩
      · rw [hh] at HIX
        have HST := Lib.hid (HBEG.out (hc.trans hh))
        clear k15 k2 hc hh HBEG HEND HTWO HEXN HOTH
        go_wp2_with (fail)
        refine HIX.out.mono ?_
        rintro e w1 ⟨rfl, rfl⟩
        go_wp2_with (fail)
        clear b0 b1 b2 b3 b4 b5 b6 b7 f0 f1 f2 f3 f4 f5 f6 f7 bl
        go_loopw [8, 9, 10, 49] (fun _ _ _ i wr => ∃ (j : Nat), j ≤ l ∧ i = .int .i64 j ∧ Hid (BdI w #[.int .u8 k, .int .u8 op, .int .i64 pl, .int .i64 nn, .string nm, .string ar, .string ex, .slice q l c] t ns decl FIN j wr)) (fun _ _ _ i _ => l - (intOf i).toNat)
        case atStart => exact ⟨0, Nat.zero_le _, rfl, HST⟩
        case round =>
          obtain ⟨j, hj, rfl, HI⟩ := hrel
          have hwr := HAL.out.trans (HI.out.below.mono HAL.out.size)
          have hbx := (HI.out.below.block _ (lt_of_block HBX.out)).trans HBX.out
          by_cases hlt : j < l
          · have hjk : j < t.ks.length := by rw [HSL.out.2.2.2]; exact hlt
            obtain ⟨b, o, qk, ck, rfl, hkid, c0, c1, c2, c3, c4, c5, c6, c7⟩ := (HT.out.below hwr).kids.get j hjk
            have hks : KidS w #[.int .u8 k, .int .u8 op, .int .i64 pl, .int .i64 nn, .string nm, .string ar, .string ex, .slice (some ⟨b, o, none⟩) l c] b (o + j * 8) [.int .u8 (tget t.ks j).h.k, .int .u8 (tget t.ks j).h.op, .int .i64 (tget t.ks j).h.pl, .int .i64 (tget t.ks j).h.n, .string (tget t.ks j).h.name, .string (tget t.ks j).h.arg, .string (tget t.ks j).h.exn, .slice qk (tget t.ks j).ks.length ck] wr := ⟨hbx, kid_cells (K := 0) c0 c1 c2 c3 c4 c5 c6 c7, hwr⟩
            have hdr := drop_tget t.ks j hjk
            have hfe := HI.out.eq
            rw [hdr] at hfe
            rw [visK_cons, badF_app] at hfe
            have hwg := Term.wts_get hjk
            have HKS := Lib.hid hks; have HKID := Lib.hid hkid; have HFE := Lib.hid hfe; have HJK := Lib.hid hjk; have HWG := Lib.hid hwg
            clear hks hkid hfe hjk hwg hdr hwr hbx c0 c1 c2 c3 c4 c5 c6 c7
            go_wp2_with (fail)
            refine wp_region_held_drew (S := fun V => KidS w #[.int .u8 k, .int .u8 op, .int .i64 pl, .int .i64 nn, .string nm, .string ar, .string ex, .slice (some ⟨b, o, none⟩) l c] b (o + j * 8) [.int .u8 (tget t.ks j).h.k, .int .u8 (tget t.ks j).h.op, .int .i64 (tget t.ks j).h.pl, .int .i64 (tget t.ks j).h.n, .string (tget t.ks j).h.name, .string (tget t.ks j).h.arg, .string (tget t.ks j).h.exn, .slice qk (tget t.ks j).ks.length ck] V ∧ Below wr.heap.size wr V) (by kernel_rfl) ⟨HKS.out.later (Below.refl _ _).drew, (Below.refl _ _).drew⟩ (fun hHeld => ?_)
            have HS0 : Hid (KidS w #[.int .u8 k, .int .u8 op, .int .i64 pl, .int .i64 nn, .string nm, .string ar, .string ex, .slice (some ⟨b, o, none⟩) l c] b (o + j * 8) [.int .u8 (tget t.ks j).h.k, .int .u8 (tget t.ks j).h.op, .int .i64 (tget t.ks j).h.pl, .int .i64 (tget t.ks j).h.n, .string (tget t.ks j).h.name, .string (tget t.ks j).h.arg, .string (tget t.ks j).h.exn, .slice qk (tget t.ks j).ks.length ck] wr.drew ∧ Below wr.heap.size wr wr.drew) := Lib.hid ⟨HKS.out.later (Below.refl _ _).drew, (Below.refl _ _).drew⟩
            clear HKS
            generalize wr.drew = v0 at *
            refine wpAnyH_take (i := 0) (v := .pointer (some ⟨w.heap.size, 7, none⟩)) rfl (by kernel_rfl) (by kernel_rfl) (by kernel_rfl) (fun _ _ _ h => h) (Or.inl ⟨by rfl, ?_⟩) (by assumption) ?_
            · intro w' hSw
              obtain ⟨⟨g0, g1, g2, g3, g4, g5, g6, g7⟩, d0, d1, d2, d3, d4, d5, d6, d7⟩ := cells8' hSw.1.box
              have c0 := hSw.1.kid 0 _ rfl; have c1 := hSw.1.kid 1 _ rfl; have c2 := hSw.1.kid 2 _ rfl; have c3 := hSw.1.kid 3 _ rfl; have c4 := hSw.1.kid 4 _ rfl; have c5 := hSw.1.kid 5 _ rfl; have c6 := hSw.1.kid 6 _ rfl; have c7 := hSw.1.kid 7 _ rfl
              simp only [Nat.add_zero] at c0
              first | go_simp | rfl
            try simp only [Act.put, List.getElem_toArray, List.getElem_cons_succ, List.getElem_cons_zero, List.setIfInBounds_toArray, List.set_cons_zero, List.set_cons_succ]
            refine wpAnyH_take (i := 1) (v := .slice (some ⟨b, o, none⟩) l c) rfl (by kernel_rfl) (by kernel_rfl) (by kernel_rfl) (fun _ _ _ h => h) (Or.inl ⟨by rfl, ?_⟩) (by assumption) ?_
            · intro w' hSw
              obtain ⟨⟨g0, g1, g2, g3, g4, g5, g6, g7⟩, d0, d1, d2, d3, d4, d5, d6, d7⟩ := cells8' hSw.1.box
              have c0 := hSw.1.kid 0 _ rfl; have c1 := hSw.1.kid 1 _ rfl; have c2 := hSw.1.kid 2 _ rfl; have c3 := hSw.1.kid 3 _ rfl; have c4 := hSw.1.kid 4 _ rfl; have c5 := hSw.1.kid 5 _ rfl; have c6 := hSw.1.kid 6 _ rfl; have c7 := hSw.1.kid 7 _ rfl
              simp only [Nat.add_zero] at c0
              first | go_simp | rfl
            try simp only [Act.put, List.getElem_toArray, List.getElem_cons_succ, List.getElem_cons_zero, List.setIfInBounds_toArray, List.set_cons_zero, List.set_cons_succ]
            refine wpAnyH_take (i := 2) (v := .int .i64 (j : Int)) rfl (by kernel_rfl) (by kernel_rfl) (by kernel_rfl) (fun _ _ _ h => h) (Or.inl ⟨by rfl, ?_⟩) (by assumption) ?_
            · intro w' hSw
              obtain ⟨⟨g0, g1, g2, g3, g4, g5, g6, g7⟩, d0, d1, d2, d3, d4, d5, d6, d7⟩ := cells8' hSw.1.box
              have c0 := hSw.1.kid 0 _ rfl; have c1 := hSw.1.kid 1 _ rfl; have c2 := hSw.1.kid 2 _ rfl; have c3 := hSw.1.kid 3 _ rfl; have c4 := hSw.1.kid 4 _ rfl; have c5 := hSw.1.kid 5 _ rfl; have c6 := hSw.1.kid 6 _ rfl; have c7 := hSw.1.kid 7 _ rfl
              simp only [Nat.add_zero] at c0
              first | go_simp | rfl
            try simp only [Act.put, List.getElem_toArray, List.getElem_cons_succ, List.getElem_cons_zero, List.setIfInBounds_toArray, List.set_cons_zero, List.set_cons_succ]
            refine wpAnyH_take (i := 3) (v := .pointer (some ⟨b, o + j * 8, none⟩)) rfl (by kernel_rfl) (by kernel_rfl) (by kernel_rfl) (fun _ _ _ h => h) (Or.inl ⟨by rfl, ?_⟩) (by assumption) ?_
            · intro w' hSw
              obtain ⟨⟨g0, g1, g2, g3, g4, g5, g6, g7⟩, d0, d1, d2, d3, d4, d5, d6, d7⟩ := cells8' hSw.1.box
              have c0 := hSw.1.kid 0 _ rfl; have c1 := hSw.1.kid 1 _ rfl; have c2 := hSw.1.kid 2 _ rfl; have c3 := hSw.1.kid 3 _ rfl; have c4 := hSw.1.kid 4 _ rfl; have c5 := hSw.1.kid 5 _ rfl; have c6 := hSw.1.kid 6 _ rfl; have c7 := hSw.1.kid 7 _ rfl
              simp only [Nat.add_zero] at c0
              first | go_simp | rfl
            try simp only [Act.put, List.getElem_toArray, List.getElem_cons_succ, List.getElem_cons_zero, List.setIfInBounds_toArray, List.set_cons_zero, List.set_cons_succ]
            refine wpAnyH_take (i := 4) (v := .agg #[.int .u8 (tget t.ks j).h.k, .int .u8 (tget t.ks j).h.op, .int .i64 (tget t.ks j).h.pl, .int .i64 (tget t.ks j).h.n, .string (tget t.ks j).h.name, .string (tget t.ks j).h.arg, .string (tget t.ks j).h.exn, .slice qk (tget t.ks j).ks.length ck]) rfl (by kernel_rfl) (by kernel_rfl) (by kernel_rfl) (fun _ _ _ h => h) (Or.inl ⟨by rfl, ?_⟩) (by assumption) ?_
            · intro w' hSw
              obtain ⟨⟨g0, g1, g2, g3, g4, g5, g6, g7⟩, d0, d1, d2, d3, d4, d5, d6, d7⟩ := cells8' hSw.1.box
              have c0 := hSw.1.kid 0 _ rfl; have c1 := hSw.1.kid 1 _ rfl; have c2 := hSw.1.kid 2 _ rfl; have c3 := hSw.1.kid 3 _ rfl; have c4 := hSw.1.kid 4 _ rfl; have c5 := hSw.1.kid 5 _ rfl; have c6 := hSw.1.kid 6 _ rfl; have c7 := hSw.1.kid 7 _ rfl
              simp only [Nat.add_zero] at c0
              first | go_simp | rfl
            try simp only [Act.put, List.getElem_toArray, List.getElem_cons_succ, List.getElem_cons_zero, List.setIfInBounds_toArray, List.set_cons_zero, List.set_cons_succ]
            refine wpAnyH_take (i := 5) (v := vn) rfl (by kernel_rfl) (by kernel_rfl) (by kernel_rfl) (fun _ _ _ h => h) (Or.inl ⟨by rfl, ?_⟩) (by assumption) ?_
            · intro w' hSw
              obtain ⟨⟨g0, g1, g2, g3, g4, g5, g6, g7⟩, d0, d1, d2, d3, d4, d5, d6, d7⟩ := cells8' hSw.1.box
              have c0 := hSw.1.kid 0 _ rfl; have c1 := hSw.1.kid 1 _ rfl; have c2 := hSw.1.kid 2 _ rfl; have c3 := hSw.1.kid 3 _ rfl; have c4 := hSw.1.kid 4 _ rfl; have c5 := hSw.1.kid 5 _ rfl; have c6 := hSw.1.kid 6 _ rfl; have c7 := hSw.1.kid 7 _ rfl
              simp only [Nat.add_zero] at c0
              first | go_simp | rfl
            try simp only [Act.put, List.getElem_toArray, List.getElem_cons_succ, List.getElem_cons_zero, List.setIfInBounds_toArray, List.set_cons_zero, List.set_cons_succ]
            refine wpAnyH_take (i := 6) (v := .agg #[.int .u8 k, .int .u8 op, .int .i64 pl, .int .i64 nn, .string nm, .string ar, .string ex, .slice (some ⟨b, o, none⟩) l c]) rfl (by kernel_rfl) (by kernel_rfl) (by kernel_rfl) (fun _ _ _ h => h) (Or.inl ⟨by rfl, ?_⟩) (by assumption) ?_
            · intro w' hSw
              obtain ⟨⟨g0, g1, g2, g3, g4, g5, g6, g7⟩, d0, d1, d2, d3, d4, d5, d6, d7⟩ := cells8' hSw.1.box
              have c0 := hSw.1.kid 0 _ rfl; have c1 := hSw.1.kid 1 _ rfl; have c2 := hSw.1.kid 2 _ rfl; have c3 := hSw.1.kid 3 _ rfl; have c4 := hSw.1.kid 4 _ rfl; have c5 := hSw.1.kid 5 _ rfl; have c6 := hSw.1.kid 6 _ rfl; have c7 := hSw.1.kid 7 _ rfl
              simp only [Nat.add_zero] at c0
              first | go_simp | rfl
            try simp only [Act.put, List.getElem_toArray, List.getElem_cons_succ, List.getElem_cons_zero, List.setIfInBounds_toArray, List.set_cons_zero, List.set_cons_succ]
            refine wpAnyH_take (i := 7) (v := .int .i64 (j : Int)) rfl (by kernel_rfl) (by kernel_rfl) (by kernel_rfl) (fun _ _ _ h => h) (Or.inl ⟨by rfl, ?_⟩) (by assumption) ?_
            · intro w' hSw
              obtain ⟨⟨g0, g1, g2, g3, g4, g5, g6, g7⟩, d0, d1, d2, d3, d4, d5, d6, d7⟩ := cells8' hSw.1.box
              have c0 := hSw.1.kid 0 _ rfl; have c1 := hSw.1.kid 1 _ rfl; have c2 := hSw.1.kid 2 _ rfl; have c3 := hSw.1.kid 3 _ rfl; have c4 := hSw.1.kid 4 _ rfl; have c5 := hSw.1.kid 5 _ rfl; have c6 := hSw.1.kid 6 _ rfl; have c7 := hSw.1.kid 7 _ rfl
              simp only [Nat.add_zero] at c0
              first | go_simp | rfl
            try simp only [Act.put, List.getElem_toArray, List.getElem_cons_succ, List.getElem_cons_zero, List.setIfInBounds_toArray, List.set_cons_zero, List.set_cons_succ]
            refine wpAnyH_take (i := 9) (v := ve) rfl (by kernel_rfl) (by kernel_rfl) (by kernel_rfl) (fun _ _ _ h => h) (Or.inl ⟨by rfl, ?_⟩) (by assumption) ?_
            · intro w' hSw
              obtain ⟨⟨g0, g1, g2, g3, g4, g5, g6, g7⟩, d0, d1, d2, d3, d4, d5, d6, d7⟩ := cells8' hSw.1.box
              have c0 := hSw.1.kid 0 _ rfl; have c1 := hSw.1.kid 1 _ rfl; have c2 := hSw.1.kid 2 _ rfl; have c3 := hSw.1.kid 3 _ rfl; have c4 := hSw.1.kid 4 _ rfl; have c5 := hSw.1.kid 5 _ rfl; have c6 := hSw.1.kid 6 _ rfl; have c7 := hSw.1.kid 7 _ rfl
              simp only [Nat.add_zero] at c0
              first | go_simp | rfl
            try simp only [Act.put, List.getElem_toArray, List.getElem_cons_succ, List.getElem_cons_zero, List.setIfInBounds_toArray, List.set_cons_zero, List.set_cons_succ]
            refine wpAnyH_ready (rs := [8]) (by kernel_rfl) (by simp) ?_
            refine AllReadyH.cons rfl (fun K hK => ?_) AllReadyH.nil
            have HK2 := Lib.hid hK
            clear hK
            go_simp
            refine (boundD_walk v0 vn ns k op pl nn nm ar ex (some ⟨b, o, none⟩) l c j (HRN.out.below (HI.out.below.trans (HS0.out.2.mono HI.out.below.size))) (by have := HSL.out.1; omega) (fun hk => kids13 HND.out hlt hk)).mono ?_
            rintro e w1 ⟨v1, rfl, h1, h2⟩
            have hs1 := And.intro (HS0.out.1.later h2) (HS0.out.2.trans (h2.mono HS0.out.2.size))
            refine HK2.out _ _ hs1 (fun hHeld => ?_)
            have HS1 := Lib.hid hs1; have HR1 := Lib.hid h1; have HB1 := Lib.hid h2
            clear HK2 hs1 h1 h2
            try simp only [Act.put, List.getElem_toArray, List.getElem_cons_succ, List.getElem_cons_zero, List.setIfInBounds_toArray, List.set_cons_zero, List.set_cons_succ]
            clear K
            refine wpAnyH_ready (rs := [10]) (by kernel_rfl) (by simp) ?_
            refine AllReadyH.cons rfl (fun K hK => ?_) AllReadyH.nil
            have HK2 := Lib.hid hK
            clear hK
            go_simp
            refine (IH.out (tget t.ks j) _ qk _ ck w1 v1 ve (boundP ns ⟨k, op, pl, nn, nm, ar, ex⟩ j) decl (by have := HM.out; have := HSL.out.2.1; have := HWG.out; omega) (HKID.out.below HS1.out.2) (ok_kid HKOK.out HJK.out) HR1.out (HRD.out.below (HI.out.below.trans (HS1.out.2.mono HI.out.below.size))) (by have := boundP_len ns ⟨k, op, pl, nn, nm, ar, ex⟩ j; have := HSL.out; have := HWG.out; omega)).mono ?_
            rintro e w2 ⟨rfl, h2⟩
            have hs2 := And.intro (HS1.out.1.later h2) (HS1.out.2.trans (h2.mono HS1.out.2.size))
            refine HK2.out _ _ hs2 (fun hHeld => ?_)
            have HS2 := Lib.hid hs2; have HB2 := Lib.hid h2
            clear HK2 hs2 h2
            try simp only [Act.put, List.getElem_toArray, List.getElem_cons_succ, List.getElem_cons_zero, List.setIfInBounds_toArray, List.set_cons_zero, List.set_cons_succ]
            clear K
            have hfe := HFE.out
            rw [HSL.out.2.2.1] at hfe
            generalize hR : badF decl (visT (tget t.ks j) (boundP ns ⟨k, op, pl, nn, nm, ar, ex⟩ j)) = R at *
            obtain ⟨R1, R2⟩ := R
            have hz := fun (h : R2 = false) => badF_zero (decl := decl) (V := visT (tget t.ks j) (boundP ns ⟨k, op, pl, nn, nm, ar, ex⟩ j)) (by rw [hR]; exact h)
            rw [hR] at hz
            have HFE2 := Lib.hid hfe; have HZ := Lib.hid hz
            clear hfe hz hR HFE
            refine wpAnyH_take (i := 11) (v := .tuple #[.int .i64 R1, .bool R2]) rfl (by kernel_rfl) (by kernel_rfl) (by kernel_rfl) (fun _ _ _ h => h) (Or.inl ⟨by rfl, ?_⟩) (by assumption) ?_
            · intro w' hSw
              obtain ⟨⟨g0, g1, g2, g3, g4, g5, g6, g7⟩, d0, d1, d2, d3, d4, d5, d6, d7⟩ := cells8' hSw.1.box
              have c0 := hSw.1.kid 0 _ rfl; have c1 := hSw.1.kid 1 _ rfl; have c2 := hSw.1.kid 2 _ rfl; have c3 := hSw.1.kid 3 _ rfl; have c4 := hSw.1.kid 4 _ rfl; have c5 := hSw.1.kid 5 _ rfl; have c6 := hSw.1.kid 6 _ rfl; have c7 := hSw.1.kid 7 _ rfl
              simp only [Nat.add_zero] at c0
              first | go_simp | rfl
            try simp only [Act.put, List.getElem_toArray, List.getElem_cons_succ, List.getElem_cons_zero, List.setIfInBounds_toArray, List.set_cons_zero, List.set_cons_succ]
            refine wpAnyH_take (i := 12) (v := .int .i64 R1) rfl (by kernel_rfl) (by kernel_rfl) (by kernel_rfl) (fun _ _ _ h => h) (Or.inl ⟨by rfl, ?_⟩) (by assumption) ?_
            · intro w' hSw
              obtain ⟨⟨g0, g1, g2, g3, g4, g5, g6, g7⟩, d0, d1, d2, d3, d4, d5, d6, d7⟩ := cells8' hSw.1.box
              have c0 := hSw.1.kid 0 _ rfl; have c1 := hSw.1.kid 1 _ rfl; have c2 := hSw.1.kid 2 _ rfl; have c3 := hSw.1.kid 3 _ rfl; have c4 := hSw.1.kid 4 _ rfl; have c5 := hSw.1.kid 5 _ rfl; have c6 := hSw.1.kid 6 _ rfl; have c7 := hSw.1.kid 7 _ rfl
              simp only [Nat.add_zero] at c0
              first | go_simp | rfl
            try simp only [Act.put, List.getElem_toArray, List.getElem_cons_succ, List.getElem_cons_zero, List.setIfInBounds_toArray, List.set_cons_zero, List.set_cons_succ]
            refine wpAnyH_take (i := 13) (v := .bool R2) rfl (by kernel_rfl) (by kernel_rfl) (by kernel_rfl) (fun _ _ _ h => h) (Or.inl ⟨by rfl, ?_⟩) (by assumption) ?_
            · intro w' hSw
              obtain ⟨⟨g0, g1, g2, g3, g4, g5, g6, g7⟩, d0, d1, d2, d3, d4, d5, d6, d7⟩ := cells8' hSw.1.box
              have c0 := hSw.1.kid 0 _ rfl; have c1 := hSw.1.kid 1 _ rfl; have c2 := hSw.1.kid 2 _ rfl; have c3 := hSw.1.kid 3 _ rfl; have c4 := hSw.1.kid 4 _ rfl; have c5 := hSw.1.kid 5 _ rfl; have c6 := hSw.1.kid 6 _ rfl; have c7 := hSw.1.kid 7 _ rfl
              simp only [Nat.add_zero] at c0
              first | go_simp | rfl
            try simp only [Act.put, List.getElem_toArray, List.getElem_cons_succ, List.getElem_cons_zero, List.setIfInBounds_toArray, List.set_cons_zero, List.set_cons_succ]
            refine wpAnyH_ready (rs := [14]) (by kernel_rfl) (by simp) ?_
            refine AllReadyH.cons rfl (fun K hK => ?_) AllReadyH.nil
            have HK2 := Lib.hid hK
            clear hK
            go_simp
            refine HK2.out _ _ HS2.out (fun hHeld => ?_)
            clear HK2
            try simp only [Act.put, List.getElem_toArray, List.getElem_cons_succ, List.getElem_cons_zero, List.setIfInBounds_toArray, List.set_cons_zero, List.set_cons_succ]
            clear K
            refine wpAnyH_ready (rs := [15]) (by kernel_rfl) (by simp) ?_
            refine AllReadyH.cons rfl (fun K hK => ?_) AllReadyH.nil
            have HK2 := Lib.hid hK
            clear hK
            go_simp
            refine HK2.out _ _ HS2.out (fun hHeld => ?_)
            clear HK2
            try simp only [Act.put, List.getElem_toArray, List.getElem_cons_succ, List.getElem_cons_zero, List.setIfInBounds_toArray, List.set_cons_zero, List.set_cons_succ]
            clear K
            refine wpAnyH_done (by kernel_rfl) ?_ _
            clear hHeld
            cases R2
            · have hfe := HFE2.out
              rw [if_neg (by simp)] at hfe
              have hnx : BdI w #[.int .u8 k, .int .u8 op, .int .i64 pl, .int .i64 nn, .string nm, .string ar, .string ex, .slice (some ⟨b, o, none⟩) l c] t ns decl FIN (j + 1) w2 := ⟨HI.out.below.trans (HS2.out.2.mono HI.out.below.size), by rw [HSL.out.2.2.1]; exact hfe⟩
              have HNX := Lib.hid hnx
              clear hnx hfe
              go_wp2_with (fail)
              go_roundw
              case rel => exact ⟨j + 1, by omega, by go_num, HNX⟩
              case measure => simp [intOf]; omega
            · have hfe := HFE2.out
              rw [if_pos rfl] at hfe
              have HFF := Lib.hid hfe
              clear hfe
              go_wp2_with (fail)
              refine bodyPost_ret (v := .tuple #[.int .i64 R1, .bool true]) (by simp [results, Tryd.results28, go_sem]) rfl ⟨by rw [← HFF.out], HS2.out.1.below⟩
          · obtain rfl : j = l := by omega
            have hfe := HI.out.eq
            rw [List.drop_eq_nil_of_le (by rw [HSL.out.2.2.2]; exact Nat.le_refl _), visK_nil, badF_nil] at hfe
            have HFE := Lib.hid hfe; have HWR := Lib.hid hwr
            clear hfe hwr hbx
            go_wp2_with (fail)
            refine bodyPost_ret (v := .tuple #[.int .i64 0, .bool false]) (by simp [results, Tryd.results28, go_sem]) rfl ⟨by rw [← HFE.out], HWR.out⟩
    have e15 : (k == 15) = false := by simpa using k15
    by_cases k16 : k = 16
    · have e16 : (k == 16) = true := by simpa using k16
      have hc := HEXN.out (.inr k16)
      cases hh : hasB decl ex
      · rw [hh] at HIX
        have HE := Lib.hid (HEND.out (hc.trans hh))
        clear k15 k16 k2 hc hh HBEG HEND HTWO HEXN HOTH
        go_wp2_with (fail)
        refine HIX.out.mono ?_
        rintro e w1 ⟨rfl, rfl⟩
        go_wp2_with (fail)
        refine bodyPost_ret (v := .tuple #[.int .i64 pl, .bool true]) (by simp [results, Tryd.results28, go_sem]) rfl ⟨by rw [HE.out], HAL.out⟩
      · rw [hh] at HIX
        have HST := Lib.hid (HBEG.out (hc.trans hh))
        clear k15 k16 k2 hc hh HBEG HEND HTWO HEXN HOTH
        go_wp2_with (fail)
        refine HIX.out.mono ?_
        rintro e w1 ⟨rfl, rfl⟩
        go_wp2_with (fail)
        clear b0 b1 b2 b3 b4 b5 b6 b7 f0 f1 f2 f3 f4 f5 f6 f7 bl
        go_loopw [8, 9, 10, 49] (fun _ _ _ i wr => ∃ (j : Nat), j ≤ l ∧ i = .int .i64 j ∧ Hid (BdI w #[.int .u8 k, .int .u8 op, .int .i64 pl, .int .i64 nn, .string nm, .string ar, .string ex, .slice q l c] t ns decl FIN j wr)) (fun _ _ _ i _ => l - (intOf i).toNat)
        case atStart => exact ⟨0, Nat.zero_le _, rfl, HST⟩
        case round =>
          obtain ⟨j, hj, rfl, HI⟩ := hrel
          have hwr := HAL.out.trans (HI.out.below.mono HAL.out.size)
          have hbx := (HI.out.below.block _ (lt_of_block HBX.out)).trans HBX.out
          by_cases hlt : j < l
          · have hjk : j < t.ks.length := by rw [HSL.out.2.2.2]; exact hlt
            obtain ⟨b, o, qk, ck, rfl, hkid, c0, c1, c2, c3, c4, c5, c6, c7⟩ := (HT.out.below hwr).kids.get j hjk
            have hks : KidS w #[.int .u8 k, .int .u8 op, .int .i64 pl, .int .i64 nn, .string nm, .string ar, .string ex, .slice (some ⟨b, o, none⟩) l c] b (o + j * 8) [.int .u8 (tget t.ks j).h.k, .int .u8 (tget t.ks j).h.op, .int .i64 (tget t.ks j).h.pl, .int .i64 (tget t.ks j).h.n, .string (tget t.ks j).h.name, .string (tget t.ks j).h.arg, .string (tget t.ks j).h.exn, .slice qk (tget t.ks j).ks.length ck] wr := ⟨hbx, kid_cells (K := 0) c0 c1 c2 c3 c4 c5 c6 c7, hwr⟩
            have hdr := drop_tget t.ks j hjk
            have hfe := HI.out.eq
            rw [hdr] at hfe
            rw [visK_cons, badF_app] at hfe
            have hwg := Term.wts_get hjk
            have HKS := Lib.hid hks; have HKID := Lib.hid hkid; have HFE := Lib.hid hfe; have HJK := Lib.hid hjk; have HWG := Lib.hid hwg
            clear hks hkid hfe hjk hwg hdr hwr hbx c0 c1 c2 c3 c4 c5 c6 c7
            go_wp2_with (fail)
            refine wp_region_held_drew (S := fun V => KidS w #[.int .u8 k, .int .u8 op, .int .i64 pl, .int .i64 nn, .string nm, .string ar, .string ex, .slice (some ⟨b, o, none⟩) l c] b (o + j * 8) [.int .u8 (tget t.ks j).h.k, .int .u8 (tget t.ks j).h.op, .int .i64 (tget t.ks j).h.pl, .int .i64 (tget t.ks j).h.n, .string (tget t.ks j).h.name, .string (tget t.ks j).h.arg, .string (tget t.ks j).h.exn, .slice qk (tget t.ks j).ks.length ck] V ∧ Below wr.heap.size wr V) (by kernel_rfl) ⟨HKS.out.later (Below.refl _ _).drew, (Below.refl _ _).drew⟩ (fun hHeld => ?_)
            have HS0 : Hid (KidS w #[.int .u8 k, .int .u8 op, .int .i64 pl, .int .i64 nn, .string nm, .string ar, .string ex, .slice (some ⟨b, o, none⟩) l c] b (o + j * 8) [.int .u8 (tget t.ks j).h.k, .int .u8 (tget t.ks j).h.op, .int .i64 (tget t.ks j).h.pl, .int .i64 (tget t.ks j).h.n, .string (tget t.ks j).h.name, .string (tget t.ks j).h.arg, .string (tget t.ks j).h.exn, .slice qk (tget t.ks j).ks.length ck] wr.drew ∧ Below wr.heap.size wr wr.drew) := Lib.hid ⟨HKS.out.later (Below.refl _ _).drew, (Below.refl _ _).drew⟩
            clear HKS
            generalize wr.drew = v0 at *
            refine wpAnyH_take (i := 0) (v := .pointer (some ⟨w.heap.size, 7, none⟩)) rfl (by kernel_rfl) (by kernel_rfl) (by kernel_rfl) (fun _ _ _ h => h) (Or.inl ⟨by rfl, ?_⟩) (by assumption) ?_
            · intro w' hSw
              obtain ⟨⟨g0, g1, g2, g3, g4, g5, g6, g7⟩, d0, d1, d2, d3, d4, d5, d6, d7⟩ := cells8' hSw.1.box
              have c0 := hSw.1.kid 0 _ rfl; have c1 := hSw.1.kid 1 _ rfl; have c2 := hSw.1.kid 2 _ rfl; have c3 := hSw.1.kid 3 _ rfl; have c4 := hSw.1.kid 4 _ rfl; have c5 := hSw.1.kid 5 _ rfl; have c6 := hSw.1.kid 6 _ rfl; have c7 := hSw.1.kid 7 _ rfl
              simp only [Nat.add_zero] at c0
              first | go_simp | rfl
            try simp only [Act.put, List.getElem_toArray, List.getElem_cons_succ, List.getElem_cons_zero, List.setIfInBounds_toArray, List.set_cons_zero, List.set_cons_succ]
            refine wpAnyH_take (i := 1) (v := .slice (some ⟨b, o, none⟩) l c) rfl (by kernel_rfl) (by kernel_rfl) (by kernel_rfl) (fun _ _ _ h => h) (Or.inl ⟨by rfl, ?_⟩) (by assumption) ?_
            · intro w' hSw
              obtain ⟨⟨g0, g1, g2, g3, g4, g5, g6, g7⟩, d0, d1, d2, d3, d4, d5, d6, d7⟩ := cells8' hSw.1.box
              have c0 := hSw.1.kid 0 _ rfl; have c1 := hSw.1.kid 1 _ rfl; have c2 := hSw.1.kid 2 _ rfl; have c3 := hSw.1.kid 3 _ rfl; have c4 := hSw.1.kid 4 _ rfl; have c5 := hSw.1.kid 5 _ rfl; have c6 := hSw.1.kid 6 _ rfl; have c7 := hSw.1.kid 7 _ rfl
              simp only [Nat.add_zero] at c0
              first | go_simp | rfl
            try simp only [Act.put, List.getElem_toArray, List.getElem_cons_succ, List.getElem_cons_zero, List.setIfInBounds_toArray, List.set_cons_zero, List.set_cons_succ]
            refine wpAnyH_take (i := 2) (v := .int .i64 (j : Int)) rfl (by kernel_rfl) (by kernel_rfl) (by kernel_rfl) (fun _ _ _ h => h) (Or.inl ⟨by rfl, ?_⟩) (by assumption) ?_
            · intro w' hSw
              obtain ⟨⟨g0, g1, g2, g3, g4, g5, g6, g7⟩, d0, d1, d2, d3, d4, d5, d6, d7⟩ := cells8' hSw.1.box
              have c0 := hSw.1.kid 0 _ rfl; have c1 := hSw.1.kid 1 _ rfl; have c2 := hSw.1.kid 2 _ rfl; have c3 := hSw.1.kid 3 _ rfl; have c4 := hSw.1.kid 4 _ rfl; have c5 := hSw.1.kid 5 _ rfl; have c6 := hSw.1.kid 6 _ rfl; have c7 := hSw.1.kid 7 _ rfl
              simp only [Nat.add_zero] at c0
              first | go_simp | rfl
            try simp only [Act.put, List.getElem_toArray, List.getElem_cons_succ, List.getElem_cons_zero, List.setIfInBounds_toArray, List.set_cons_zero, List.set_cons_succ]
            refine wpAnyH_take (i := 3) (v := .pointer (some ⟨b, o + j * 8, none⟩)) rfl (by kernel_rfl) (by kernel_rfl) (by kernel_rfl) (fun _ _ _ h => h) (Or.inl ⟨by rfl, ?_⟩) (by assumption) ?_
            · intro w' hSw
              obtain ⟨⟨g0, g1, g2, g3, g4, g5, g6, g7⟩, d0, d1, d2, d3, d4, d5, d6, d7⟩ := cells8' hSw.1.box
              have c0 := hSw.1.kid 0 _ rfl; have c1 := hSw.1.kid 1 _ rfl; have c2 := hSw.1.kid 2 _ rfl; have c3 := hSw.1.kid 3 _ rfl; have c4 := hSw.1.kid 4 _ rfl; have c5 := hSw.1.kid 5 _ rfl; have c6 := hSw.1.kid 6 _ rfl; have c7 := hSw.1.kid 7 _ rfl
              simp only [Nat.add_zero] at c0
              first | go_simp | rfl
            try simp only [Act.put, List.getElem_toArray, List.getElem_cons_succ, List.getElem_cons_zero, List.setIfInBounds_toArray, List.set_cons_zero, List.set_cons_succ]
            refine wpAnyH_take (i := 4) (v := .agg #[.int .u8 (tget t.ks j).h.k, .int .u8 (tget t.ks j).h.op, .int .i64 (tget t.ks j).h.pl, .int .i64 (tget t.ks j).h.n, .string (tget t.ks j).h.name, .string (tget t.ks j).h.arg, .string (tget t.ks j).h.exn, .slice qk (tget t.ks j).ks.length ck]) rfl (by kernel_rfl) (by kernel_rfl) (by kernel_rfl) (fun _ _ _ h => h) (Or.inl ⟨by rfl, ?_⟩) (by assumption) ?_
            · intro w' hSw
              obtain ⟨⟨g0, g1, g2, g3, g4, g5, g6, g7⟩, d0, d1, d2, d3, d4, d5, d6, d7⟩ := cells8' hSw.1.box
              have c0 := hSw.1.kid 0 _ rfl; have c1 := hSw.1.kid 1 _ rfl; have c2 := hSw.1.kid 2 _ rfl; have c3 := hSw.1.kid 3 _ rfl; have c4 := hSw.1.kid 4 _ rfl; have c5 := hSw.1.kid 5 _ rfl; have c6 := hSw.1.kid 6 _ rfl; have c7 := hSw.1.kid 7 _ rfl
              simp only [Nat.add_zero] at c0
              first | go_simp | rfl
            try simp only [Act.put, List.getElem_toArray, List.getElem_cons_succ, List.getElem_cons_zero, List.setIfInBounds_toArray, List.set_cons_zero, List.set_cons_succ]
            refine wpAnyH_take (i := 5) (v := vn) rfl (by kernel_rfl) (by kernel_rfl) (by kernel_rfl) (fun _ _ _ h => h) (Or.inl ⟨by rfl, ?_⟩) (by assumption) ?_
            · intro w' hSw
              obtain ⟨⟨g0, g1, g2, g3, g4, g5, g6, g7⟩, d0, d1, d2, d3, d4, d5, d6, d7⟩ := cells8' hSw.1.box
              have c0 := hSw.1.kid 0 _ rfl; have c1 := hSw.1.kid 1 _ rfl; have c2 := hSw.1.kid 2 _ rfl; have c3 := hSw.1.kid 3 _ rfl; have c4 := hSw.1.kid 4 _ rfl; have c5 := hSw.1.kid 5 _ rfl; have c6 := hSw.1.kid 6 _ rfl; have c7 := hSw.1.kid 7 _ rfl
              simp only [Nat.add_zero] at c0
              first | go_simp | rfl
            try simp only [Act.put, List.getElem_toArray, List.getElem_cons_succ, List.getElem_cons_zero, List.setIfInBounds_toArray, List.set_cons_zero, List.set_cons_succ]
            refine wpAnyH_take (i := 6) (v := .agg #[.int .u8 k, .int .u8 op, .int .i64 pl, .int .i64 nn, .string nm, .string ar, .string ex, .slice (some ⟨b, o, none⟩) l c]) rfl (by kernel_rfl) (by kernel_rfl) (by kernel_rfl) (fun _ _ _ h => h) (Or.inl ⟨by rfl, ?_⟩) (by assumption) ?_
            · intro w' hSw
              obtain ⟨⟨g0, g1, g2, g3, g4, g5, g6, g7⟩, d0, d1, d2, d3, d4, d5, d6, d7⟩ := cells8' hSw.1.box
              have c0 := hSw.1.kid 0 _ rfl; have c1 := hSw.1.kid 1 _ rfl; have c2 := hSw.1.kid 2 _ rfl; have c3 := hSw.1.kid 3 _ rfl; have c4 := hSw.1.kid 4 _ rfl; have c5 := hSw.1.kid 5 _ rfl; have c6 := hSw.1.kid 6 _ rfl; have c7 := hSw.1.kid 7 _ rfl
              simp only [Nat.add_zero] at c0
              first | go_simp | rfl
            try simp only [Act.put, List.getElem_toArray, List.getElem_cons_succ, List.getElem_cons_zero, List.setIfInBounds_toArray, List.set_cons_zero, List.set_cons_succ]
            refine wpAnyH_take (i := 7) (v := .int .i64 (j : Int)) rfl (by kernel_rfl) (by kernel_rfl) (by kernel_rfl) (fun _ _ _ h => h) (Or.inl ⟨by rfl, ?_⟩) (by assumption) ?_
            · intro w' hSw
              obtain ⟨⟨g0, g1, g2, g3, g4, g5, g6, g7⟩, d0, d1, d2, d3, d4, d5, d6, d7⟩ := cells8' hSw.1.box
              have c0 := hSw.1.kid 0 _ rfl; have c1 := hSw.1.kid 1 _ rfl; have c2 := hSw.1.kid 2 _ rfl; have c3 := hSw.1.kid 3 _ rfl; have c4 := hSw.1.kid 4 _ rfl; have c5 := hSw.1.kid 5 _ rfl; have c6 := hSw.1.kid 6 _ rfl; have c7 := hSw.1.kid 7 _ rfl
              simp only [Nat.add_zero] at c0
              first | go_simp | rfl
            try simp only [Act.put, List.getElem_toArray, List.getElem_cons_succ, List.getElem_cons_zero, List.setIfInBounds_toArray, List.set_cons_zero, List.set_cons_succ]
            refine wpAnyH_take (i := 9) (v := ve) rfl (by kernel_rfl) (by kernel_rfl) (by kernel_rfl) (fun _ _ _ h => h) (Or.inl ⟨by rfl, ?_⟩) (by assumption) ?_
            · intro w' hSw
              obtain ⟨⟨g0, g1, g2, g3, g4, g5, g6, g7⟩, d0, d1, d2, d3, d4, d5, d6, d7⟩ := cells8' hSw.1.box
              have c0 := hSw.1.kid 0 _ rfl; have c1 := hSw.1.kid 1 _ rfl; have c2 := hSw.1.kid 2 _ rfl; have c3 := hSw.1.kid 3 _ rfl; have c4 := hSw.1.kid 4 _ rfl; have c5 := hSw.1.kid 5 _ rfl; have c6 := hSw.1.kid 6 _ rfl; have c7 := hSw.1.kid 7 _ rfl
              simp only [Nat.add_zero] at c0
              first | go_simp | rfl
            try simp only [Act.put, List.getElem_toArray, List.getElem_cons_succ, List.getElem_cons_zero, List.setIfInBounds_toArray, List.set_cons_zero, List.set_cons_succ]
            refine wpAnyH_ready (rs := [8]) (by kernel_rfl) (by simp) ?_
            refine AllReadyH.cons rfl (fun K hK => ?_) AllReadyH.nil
            have HK2 := Lib.hid hK
            clear hK
            go_simp
            refine (boundD_walk v0 vn ns k op pl nn nm ar ex (some ⟨b, o, none⟩) l c j (HRN.out.below (HI.out.below.trans (HS0.out.2.mono HI.out.below.size))) (by have := HSL.out.1; omega) (fun hk => kids13 HND.out hlt hk)).mono ?_
            rintro e w1 ⟨v1, rfl, h1, h2⟩
            have hs1 := And.intro (HS0.out.1.later h2) (HS0.out.2.trans (h2.mono HS0.out.2.size))
            refine HK2.out _ _ hs1 (fun hHeld => ?_)
            have HS1 := Lib.hid hs1; have HR1 := Lib.hid h1; have HB1 := Lib.hid h2
            clear HK2 hs1 h1 h2
            try simp only [Act.put, List.getElem_toArray, List.getElem_cons_succ, List.getElem_cons_zero, List.setIfInBounds_toArray, List.set_cons_zero, List.set_cons_succ]
            clear K
            refine wpAnyH_ready (rs := [10]) (by kernel_rfl) (by simp) ?_
            refine AllReadyH.cons rfl (fun K hK => ?_) AllReadyH.nil
            have HK2 := Lib.hid hK
            clear hK
            go_simp
            refine (IH.out (tget t.ks j) _ qk _ ck w1 v1 ve (boundP ns ⟨k, op, pl, nn, nm, ar, ex⟩ j) decl (by have := HM.out; have := HSL.out.2.1; have := HWG.out; omega) (HKID.out.below HS1.out.2) (ok_kid HKOK.out HJK.out) HR1.out (HRD.out.below (HI.out.below.trans (HS1.out.2.mono HI.out.below.size))) (by have := boundP_len ns ⟨k, op, pl, nn, nm, ar, ex⟩ j; have := HSL.out; have := HWG.out; omega)).mono ?_
            rintro e w2 ⟨rfl, h2⟩
            have hs2 := And.intro (HS1.out.1.later h2) (HS1.out.2.trans (h2.mono HS1.out.2.size))
            refine HK2.out _ _ hs2 (fun hHeld => ?_)
            have HS2 := Lib.hid hs2; have HB2 := Lib.hid h2
            clear HK2 hs2 h2
            try simp only [Act.put, List.getElem_toArray, List.getElem_cons_succ, List.getElem_cons_zero, List.setIfInBounds_toArray, List.set_cons_zero, List.set_cons_succ]
            clear K
            have hfe := HFE.out
            rw [HSL.out.2.2.1] at hfe
            generalize hR : badF decl (visT (tget t.ks j) (boundP ns ⟨k, op, pl, nn, nm, ar, ex⟩ j)) = R at *
            obtain ⟨R1, R2⟩ := R
            have hz := fun (h : R2 = false) => badF_zero (decl := decl) (V := visT (tget t.ks j) (boundP ns ⟨k, op, pl, nn, nm, ar, ex⟩ j)) (by rw [hR]; exact h)
            rw [hR] at hz
            have HFE2 := Lib.hid hfe; have HZ := Lib.hid hz
            clear hfe hz hR HFE
            refine wpAnyH_take (i := 11) (v := .tuple #[.int .i64 R1, .bool R2]) rfl (by kernel_rfl) (by kernel_rfl) (by kernel_rfl) (fun _ _ _ h => h) (Or.inl ⟨by rfl, ?_⟩) (by assumption) ?_
            · intro w' hSw
              obtain ⟨⟨g0, g1, g2, g3, g4, g5, g6, g7⟩, d0, d1, d2, d3, d4, d5, d6, d7⟩ := cells8' hSw.1.box
              have c0 := hSw.1.kid 0 _ rfl; have c1 := hSw.1.kid 1 _ rfl; have c2 := hSw.1.kid 2 _ rfl; have c3 := hSw.1.kid 3 _ rfl; have c4 := hSw.1.kid 4 _ rfl; have c5 := hSw.1.kid 5 _ rfl; have c6 := hSw.1.kid 6 _ rfl; have c7 := hSw.1.kid 7 _ rfl
              simp only [Nat.add_zero] at c0
              first | go_simp | rfl
            try simp only [Act.put, List.getElem_toArray, List.getElem_cons_succ, List.getElem_cons_zero, List.setIfInBounds_toArray, List.set_cons_zero, List.set_cons_succ]
            refine wpAnyH_take (i := 12) (v := .int .i64 R1) rfl (by kernel_rfl) (by kernel_rfl) (by kernel_rfl) (fun _ _ _ h => h) (Or.inl ⟨by rfl, ?_⟩) (by assumption) ?_
            · intro w' hSw
              obtain ⟨⟨g0, g1, g2, g3, g4, g5, g6, g7⟩, d0, d1, d2, d3, d4, d5, d6, d7⟩ := cells8' hSw.1.box
              have c0 := hSw.1.kid 0 _ rfl; have c1 := hSw.1.kid 1 _ rfl; have c2 := hSw.1.kid 2 _ rfl; have c3 := hSw.1.kid 3 _ rfl; have c4 := hSw.1.kid 4 _ rfl; have c5 := hSw.1.kid 5 _ rfl; have c6 := hSw.1.kid 6 _ rfl; have c7 := hSw.1.kid 7 _ rfl
              simp only [Nat.add_zero] at c0
              first | go_simp | rfl
            try simp only [Act.put, List.getElem_toArray, List.getElem_cons_succ, List.getElem_cons_zero, List.setIfInBounds_toArray, List.set_cons_zero, List.set_cons_succ]
            refine wpAnyH_take (i := 13) (v := .bool R2) rfl (by kernel_rfl) (by kernel_rfl) (by kernel_rfl) (fun _ _ _ h => h) (Or.inl ⟨by rfl, ?_⟩) (by assumption) ?_
            · intro w' hSw
              obtain ⟨⟨g0, g1, g2, g3, g4, g5, g6, g7⟩, d0, d1, d2, d3, d4, d5, d6, d7⟩ := cells8' hSw.1.box
              have c0 := hSw.1.kid 0 _ rfl; have c1 := hSw.1.kid 1 _ rfl; have c2 := hSw.1.kid 2 _ rfl; have c3 := hSw.1.kid 3 _ rfl; have c4 := hSw.1.kid 4 _ rfl; have c5 := hSw.1.kid 5 _ rfl; have c6 := hSw.1.kid 6 _ rfl; have c7 := hSw.1.kid 7 _ rfl
              simp only [Nat.add_zero] at c0
              first | go_simp | rfl
            try simp only [Act.put, List.getElem_toArray, List.getElem_cons_succ, List.getElem_cons_zero, List.setIfInBounds_toArray, List.set_cons_zero, List.set_cons_succ]
            refine wpAnyH_ready (rs := [14]) (by kernel_rfl) (by simp) ?_
            refine AllReadyH.cons rfl (fun K hK => ?_) AllReadyH.nil
            have HK2 := Lib.hid hK
            clear hK
            go_simp
            refine HK2.out _ _ HS2.out (fun hHeld => ?_)
            clear HK2
            try simp only [Act.put, List.getElem_toArray, List.getElem_cons_succ, List.getElem_cons_zero, List.setIfInBounds_toArray, List.set_cons_zero, List.set_cons_succ]
            clear K
            refine wpAnyH_ready (rs := [15]) (by kernel_rfl) (by simp) ?_
            refine AllReadyH.cons rfl (fun K hK => ?_) AllReadyH.nil
            have HK2 := Lib.hid hK
            clear hK
            go_simp
            refine HK2.out _ _ HS2.out (fun hHeld => ?_)
            clear HK2
            try simp only [Act.put, List.getElem_toArray, List.getElem_cons_succ, List.getElem_cons_zero, List.setIfInBounds_toArray, List.set_cons_zero, List.set_cons_succ]
            clear K
            refine wpAnyH_done (by kernel_rfl) ?_ _
            clear hHeld
            cases R2
            · have hfe := HFE2.out
              rw [if_neg (by simp)] at hfe
              have hnx : BdI w #[.int .u8 k, .int .u8 op, .int .i64 pl, .int .i64 nn, .string nm, .string ar, .string ex, .slice (some ⟨b, o, none⟩) l c] t ns decl FIN (j + 1) w2 := ⟨HI.out.below.trans (HS2.out.2.mono HI.out.below.size), by rw [HSL.out.2.2.1]; exact hfe⟩
              have HNX := Lib.hid hnx
              clear hnx hfe
              go_wp2_with (fail)
              go_roundw
              case rel => exact ⟨j + 1, by omega, by go_num, HNX⟩
              case measure => simp [intOf]; omega
            · have hfe := HFE2.out
              rw [if_pos rfl] at hfe
              have HFF := Lib.hid hfe
              clear hfe
              go_wp2_with (fail)
              refine bodyPost_ret (v := .tuple #[.int .i64 R1, .bool true]) (by simp [results, Tryd.results28, go_sem]) rfl ⟨by rw [← HFF.out], HS2.out.1.below⟩
          · obtain rfl : j = l := by omega
            have hfe := HI.out.eq
            rw [List.drop_eq_nil_of_le (by rw [HSL.out.2.2.2]; exact Nat.le_refl _), visK_nil, badF_nil] at hfe
            have HFE := Lib.hid hfe; have HWR := Lib.hid hwr
            clear hfe hwr hbx
            go_wp2_with (fail)
            refine bodyPost_ret (v := .tuple #[.int .i64 0, .bool false]) (by simp [results, Tryd.results28, go_sem]) rfl ⟨by rw [← HFE.out], HWR.out⟩
    have e16 : (k == 16) = false := by simpa using k16
    have HST := Lib.hid (HBEG.out (HOTH.out k2 (fun h => h.elim k15 k16)))
    clear k15 k16 k2 HBEG HEND HTWO HEXN HOTH
    go_wp2_with (fail)
    clear b0 b1 b2 b3 b4 b5 b6 b7 f0 f1 f2 f3 f4 f5 f6 f7 bl
    go_loopw [8, 9, 10, 49] (fun _ _ _ i wr => ∃ (j : Nat), j ≤ l ∧ i = .int .i64 j ∧ Hid (BdI w #[.int .u8 k, .int .u8 op, .int .i64 pl, .int .i64 nn, .string nm, .string ar, .string ex, .slice q l c] t ns decl FIN j wr)) (fun _ _ _ i _ => l - (intOf i).toNat)
    case atStart => exact ⟨0, Nat.zero_le _, rfl, HST⟩
    case round =>
      obtain ⟨j, hj, rfl, HI⟩ := hrel
      have hwr := HAL.out.trans (HI.out.below.mono HAL.out.size)
      have hbx := (HI.out.below.block _ (lt_of_block HBX.out)).trans HBX.out
      by_cases hlt : j < l
      · have hjk : j < t.ks.length := by rw [HSL.out.2.2.2]; exact hlt
        obtain ⟨b, o, qk, ck, rfl, hkid, c0, c1, c2, c3, c4, c5, c6, c7⟩ := (HT.out.below hwr).kids.get j hjk
        have hks : KidS w #[.int .u8 k, .int .u8 op, .int .i64 pl, .int .i64 nn, .string nm, .string ar, .string ex, .slice (some ⟨b, o, none⟩) l c] b (o + j * 8) [.int .u8 (tget t.ks j).h.k, .int .u8 (tget t.ks j).h.op, .int .i64 (tget t.ks j).h.pl, .int .i64 (tget t.ks j).h.n, .string (tget t.ks j).h.name, .string (tget t.ks j).h.arg, .string (tget t.ks j).h.exn, .slice qk (tget t.ks j).ks.length ck] wr := ⟨hbx, kid_cells (K := 0) c0 c1 c2 c3 c4 c5 c6 c7, hwr⟩
        have hdr := drop_tget t.ks j hjk
        have hfe := HI.out.eq
        rw [hdr] at hfe
        rw [visK_cons, badF_app] at hfe
        have hwg := Term.wts_get hjk
        have HKS := Lib.hid hks; have HKID := Lib.hid hkid; have HFE := Lib.hid hfe; have HJK := Lib.hid hjk; have HWG := Lib.hid hwg
        clear hks hkid hfe hjk hwg hdr hwr hbx c0 c1 c2 c3 c4 c5 c6 c7
        go_wp2_with (fail)
        refine wp_region_held_drew (S := fun V => KidS w #[.int .u8 k, .int .u8 op, .int .i64 pl, .int .i64 nn, .string nm, .string ar, .string ex, .slice (some ⟨b, o, none⟩) l c] b (o + j * 8) [.int .u8 (tget t.ks j).h.k, .int .u8 (tget t.ks j).h.op, .int .i64 (tget t.ks j).h.pl, .int .i64 (tget t.ks j).h.n, .string (tget t.ks j).h.name, .string (tget t.ks j).h.arg, .string (tget t.ks j).h.exn, .slice qk (tget t.ks j).ks.length ck] V ∧ Below wr.heap.size wr V) (by kernel_rfl) ⟨HKS.out.later (Below.refl _ _).drew, (Below.refl _ _).drew⟩ (fun hHeld => ?_)
        have HS0 : Hid (KidS w #[.int .u8 k, .int .u8 op, .int .i64 pl, .int .i64 nn, .string nm, .string ar, .string ex, .slice (some ⟨b, o, none⟩) l c] b (o + j * 8) [.int .u8 (tget t.ks j).h.k, .int .u8 (tget t.ks j).h.op, .int .i64 (tget t.ks j).h.pl, .int .i64 (tget t.ks j).h.n, .string (tget t.ks j).h.name, .string (tget t.ks j).h.arg, .string (tget t.ks j).h.exn, .slice qk (tget t.ks j).ks.length ck] wr.drew ∧ Below wr.heap.size wr wr.drew) := Lib.hid ⟨HKS.out.later (Below.refl _ _).drew, (Below.refl _ _).drew⟩
        clear HKS
        generalize wr.drew = v0 at *
        refine wpAnyH_take (i := 0) (v := .pointer (some ⟨w.heap.size, 7, none⟩)) rfl (by kernel_rfl) (by kernel_rfl) (by kernel_rfl) (fun _ _ _ h => h) (Or.inl ⟨by rfl, ?_⟩) (by assumption) ?_
        · intro w' hSw
          obtain ⟨⟨g0, g1, g2, g3, g4, g5, g6, g7⟩, d0, d1, d2, d3, d4, d5, d6, d7⟩ := cells8' hSw.1.box
          have c0 := hSw.1.kid 0 _ rfl; have c1 := hSw.1.kid 1 _ rfl; have c2 := hSw.1.kid 2 _ rfl; have c3 := hSw.1.kid 3 _ rfl; have c4 := hSw.1.kid 4 _ rfl; have c5 := hSw.1.kid 5 _ rfl; have c6 := hSw.1.kid 6 _ rfl; have c7 := hSw.1.kid 7 _ rfl
          simp only [Nat.add_zero] at c0
          first | go_simp | rfl
        try simp only [Act.put, List.getElem_toArray, List.getElem_cons_succ, List.getElem_cons_zero, List.setIfInBounds_toArray, List.set_cons_zero, List.set_cons_succ]
        refine wpAnyH_take (i := 1) (v := .slice (some ⟨b, o, none⟩) l c) rfl (by kernel_rfl) (by kernel_rfl) (by kernel_rfl) (fun _ _ _ h => h) (Or.inl ⟨by rfl, ?_⟩) (by assumption) ?_
        · intro w' hSw
          obtain ⟨⟨g0, g1, g2, g3, g4, g5, g6, g7⟩, d0, d1, d2, d3, d4, d5, d6, d7⟩ := cells8' hSw.1.box
          have c0 := hSw.1.kid 0 _ rfl; have c1 := hSw.1.kid 1 _ rfl; have c2 := hSw.1.kid 2 _ rfl; have c3 := hSw.1.kid 3 _ rfl; have c4 := hSw.1.kid 4 _ rfl; have c5 := hSw.1.kid 5 _ rfl; have c6 := hSw.1.kid 6 _ rfl; have c7 := hSw.1.kid 7 _ rfl
          simp only [Nat.add_zero] at c0
          first | go_simp | rfl
        try simp only [Act.put, List.getElem_toArray, List.getElem_cons_succ, List.getElem_cons_zero, List.setIfInBounds_toArray, List.set_cons_zero, List.set_cons_succ]
        refine wpAnyH_take (i := 2) (v := .int .i64 (j : Int)) rfl (by kernel_rfl) (by kernel_rfl) (by kernel_rfl) (fun _ _ _ h => h) (Or.inl ⟨by rfl, ?_⟩) (by assumption) ?_
        · intro w' hSw
          obtain ⟨⟨g0, g1, g2, g3, g4, g5, g6, g7⟩, d0, d1, d2, d3, d4, d5, d6, d7⟩ := cells8' hSw.1.box
          have c0 := hSw.1.kid 0 _ rfl; have c1 := hSw.1.kid 1 _ rfl; have c2 := hSw.1.kid 2 _ rfl; have c3 := hSw.1.kid 3 _ rfl; have c4 := hSw.1.kid 4 _ rfl; have c5 := hSw.1.kid 5 _ rfl; have c6 := hSw.1.kid 6 _ rfl; have c7 := hSw.1.kid 7 _ rfl
          simp only [Nat.add_zero] at c0
          first | go_simp | rfl
        try simp only [Act.put, List.getElem_toArray, List.getElem_cons_succ, List.getElem_cons_zero, List.setIfInBounds_toArray, List.set_cons_zero, List.set_cons_succ]
        refine wpAnyH_take (i := 3) (v := .pointer (some ⟨b, o + j * 8, none⟩)) rfl (by kernel_rfl) (by kernel_rfl) (by kernel_rfl) (fun _ _ _ h => h) (Or.inl ⟨by rfl, ?_⟩) (by assumption) ?_
        · intro w' hSw
          obtain ⟨⟨g0, g1, g2, g3, g4, g5, g6, g7⟩, d0, d1, d2, d3, d4, d5, d6, d7⟩ := cells8' hSw.1.box
          have c0 := hSw.1.kid 0 _ rfl; have c1 := hSw.1.kid 1 _ rfl; have c2 := hSw.1.kid 2 _ rfl; have c3 := hSw.1.kid 3 _ rfl; have c4 := hSw.1.kid 4 _ rfl; have c5 := hSw.1.kid 5 _ rfl; have c6 := hSw.1.kid 6 _ rfl; have c7 := hSw.1.kid 7 _ rfl
          simp only [Nat.add_zero] at c0
          first | go_simp | rfl
        try simp only [Act.put, List.getElem_toArray, List.getElem_cons_succ, List.getElem_cons_zero, List.setIfInBounds_toArray, List.set_cons_zero, List.set_cons_succ]
        refine wpAnyH_take (i := 4) (v := .agg #[.int .u8 (tget t.ks j).h.k, .int .u8 (tget t.ks j).h.op, .int .i64 (tget t.ks j).h.pl, .int .i64 (tget t.ks j).h.n, .string (tget t.ks j).h.name, .string (tget t.ks j).h.arg, .string (tget t.ks j).h.exn, .slice qk (tget t.ks j).ks.length ck]) rfl (by kernel_rfl) (by kernel_rfl) (by kernel_rfl) (fun _ _ _ h => h) (Or.inl ⟨by rfl, ?_⟩) (by assumption) ?_
        · intro w' hSw
          obtain ⟨⟨g0, g1, g2, g3, g4, g5, g6, g7⟩, d0, d1, d2, d3, d4, d5, d6, d7⟩ := cells8' hSw.1.box
          have c0 := hSw.1.kid 0 _ rfl; have c1 := hSw.1.kid 1 _ rfl; have c2 := hSw.1.kid 2 _ rfl; have c3 := hSw.1.kid 3 _ rfl; have c4 := hSw.1.kid 4 _ rfl; have c5 := hSw.1.kid 5 _ rfl; have c6 := hSw.1.kid 6 _ rfl; have c7 := hSw.1.kid 7 _ rfl
          simp only [Nat.add_zero] at c0
          first | go_simp | rfl
        try simp only [Act.put, List.getElem_toArray, List.getElem_cons_succ, List.getElem_cons_zero, List.setIfInBounds_toArray, List.set_cons_zero, List.set_cons_succ]
        refine wpAnyH_take (i := 5) (v := vn) rfl (by kernel_rfl) (by kernel_rfl) (by kernel_rfl) (fun _ _ _ h => h) (Or.inl ⟨by rfl, ?_⟩) (by assumption) ?_
        · intro w' hSw
          obtain ⟨⟨g0, g1, g2, g3, g4, g5, g6, g7⟩, d0, d1, d2, d3, d4, d5, d6, d7⟩ := cells8' hSw.1.box
          have c0 := hSw.1.kid 0 _ rfl; have c1 := hSw.1.kid 1 _ rfl; have c2 := hSw.1.kid 2 _ rfl; have c3 := hSw.1.kid 3 _ rfl; have c4 := hSw.1.kid 4 _ rfl; have c5 := hSw.1.kid 5 _ rfl; have c6 := hSw.1.kid 6 _ rfl; have c7 := hSw.1.kid 7 _ rfl
          simp only [Nat.add_zero] at c0
          first | go_simp | rfl
        try simp only [Act.put, List.getElem_toArray, List.getElem_cons_succ, List.getElem_cons_zero, List.setIfInBounds_toArray, List.set_cons_zero, List.set_cons_succ]
        refine wpAnyH_take (i := 6) (v := .agg #[.int .u8 k, .int .u8 op, .int .i64 pl, .int .i64 nn, .string nm, .string ar, .string ex, .slice (some ⟨b, o, none⟩) l c]) rfl (by kernel_rfl) (by kernel_rfl) (by kernel_rfl) (fun _ _ _ h => h) (Or.inl ⟨by rfl, ?_⟩) (by assumption) ?_
        · intro w' hSw
          obtain ⟨⟨g0, g1, g2, g3, g4, g5, g6, g7⟩, d0, d1, d2, d3, d4, d5, d6, d7⟩ := cells8' hSw.1.box
          have c0 := hSw.1.kid 0 _ rfl; have c1 := hSw.1.kid 1 _ rfl; have c2 := hSw.1.kid 2 _ rfl; have c3 := hSw.1.kid 3 _ rfl; have c4 := hSw.1.kid 4 _ rfl; have c5 := hSw.1.kid 5 _ rfl; have c6 := hSw.1.kid 6 _ rfl; have c7 := hSw.1.kid 7 _ rfl
          simp only [Nat.add_zero] at c0
          first | go_simp | rfl
        try simp only [Act.put, List.getElem_toArray, List.getElem_cons_succ, List.getElem_cons_zero, List.setIfInBounds_toArray, List.set_cons_zero, List.set_cons_succ]
        refine wpAnyH_take (i := 7) (v := .int .i64 (j : Int)) rfl (by kernel_rfl) (by kernel_rfl) (by kernel_rfl) (fun _ _ _ h => h) (Or.inl ⟨by rfl, ?_⟩) (by assumption) ?_
        · intro w' hSw
          obtain ⟨⟨g0, g1, g2, g3, g4, g5, g6, g7⟩, d0, d1, d2, d3, d4, d5, d6, d7⟩ := cells8' hSw.1.box
          have c0 := hSw.1.kid 0 _ rfl; have c1 := hSw.1.kid 1 _ rfl; have c2 := hSw.1.kid 2 _ rfl; have c3 := hSw.1.kid 3 _ rfl; have c4 := hSw.1.kid 4 _ rfl; have c5 := hSw.1.kid 5 _ rfl; have c6 := hSw.1.kid 6 _ rfl; have c7 := hSw.1.kid 7 _ rfl
          simp only [Nat.add_zero] at c0
          first | go_simp | rfl
        try simp only [Act.put, List.getElem_toArray, List.getElem_cons_succ, List.getElem_cons_zero, List.setIfInBounds_toArray, List.set_cons_zero, List.set_cons_succ]
        refine wpAnyH_take (i := 9) (v := ve) rfl (by kernel_rfl) (by kernel_rfl) (by kernel_rfl) (fun _ _ _ h => h) (Or.inl ⟨by rfl, ?_⟩) (by assumption) ?_
        · intro w' hSw
          obtain ⟨⟨g0, g1, g2, g3, g4, g5, g6, g7⟩, d0, d1, d2, d3, d4, d5, d6, d7⟩ := cells8' hSw.1.box
          have c0 := hSw.1.kid 0 _ rfl; have c1 := hSw.1.kid 1 _ rfl; have c2 := hSw.1.kid 2 _ rfl; have c3 := hSw.1.kid 3 _ rfl; have c4 := hSw.1.kid 4 _ rfl; have c5 := hSw.1.kid 5 _ rfl; have c6 := hSw.1.kid 6 _ rfl; have c7 := hSw.1.kid 7 _ rfl
          simp only [Nat.add_zero] at c0
          first | go_simp | rfl
        try simp only [Act.put, List.getElem_toArray, List.getElem_cons_succ, List.getElem_cons_zero, List.setIfInBounds_toArray, List.set_cons_zero, List.set_cons_succ]
        refine wpAnyH_ready (rs := [8]) (by kernel_rfl) (by simp) ?_
        refine AllReadyH.cons rfl (fun K hK => ?_) AllReadyH.nil
        have HK2 := Lib.hid hK
        clear hK
        go_simp
        refine (boundD_walk v0 vn ns k op pl nn nm ar ex (some ⟨b, o, none⟩) l c j (HRN.out.below (HI.out.below.trans (HS0.out.2.mono HI.out.below.size))) (by have := HSL.out.1; omega) (fun hk => kids13 HND.out hlt hk)).mono ?_
        rintro e w1 ⟨v1, rfl, h1, h2⟩
        have hs1 := And.intro (HS0.out.1.later h2) (HS0.out.2.trans (h2.mono HS0.out.2.size))
        refine HK2.out _ _ hs1 (fun hHeld => ?_)
        have HS1 := Lib.hid hs1; have HR1 := Lib.hid h1; have HB1 := Lib.hid h2
        clear HK2 hs1 h1 h2
        try simp only [Act.put, List.getElem_toArray, List.getElem_cons_succ, List.getElem_cons_zero, List.setIfInBounds_toArray, List.set_cons_zero, List.set_cons_succ]
        clear K
        refine wpAnyH_ready (rs := [10]) (by kernel_rfl) (by simp) ?_
        refine AllReadyH.cons rfl (fun K hK => ?_) AllReadyH.nil
        have HK2 := Lib.hid hK
        clear hK
        go_simp
        refine (IH.out (tget t.ks j) _ qk _ ck w1 v1 ve (boundP ns ⟨k, op, pl, nn, nm, ar, ex⟩ j) decl (by have := HM.out; have := HSL.out.2.1; have := HWG.out; omega) (HKID.out.below HS1.out.2) (ok_kid HKOK.out HJK.out) HR1.out (HRD.out.below (HI.out.below.trans (HS1.out.2.mono HI.out.below.size))) (by have := boundP_len ns ⟨k, op, pl, nn, nm, ar, ex⟩ j; have := HSL.out; have := HWG.out; omega)).mono ?_
        rintro e w2 ⟨rfl, h2⟩
        have hs2 := And.intro (HS1.out.1.later h2) (HS1.out.2.trans (h2.mono HS1.out.2.size))
        refine HK2.out _ _ hs2 (fun hHeld => ?_)
        have HS2 := Lib.hid hs2; have HB2 := Lib.hid h2
        clear HK2 hs2 h2
        try simp only [Act.put, List.getElem_toArray, List.getElem_cons_succ, List.getElem_cons_zero, List.setIfInBounds_toArray, List.set_cons_zero, List.set_cons_succ]
        clear K
        have hfe := HFE.out
        rw [HSL.out.2.2.1] at hfe
        generalize hR : badF decl (visT (tget t.ks j) (boundP ns ⟨k, op, pl, nn, nm, ar, ex⟩ j)) = R at *
        obtain ⟨R1, R2⟩ := R
        have hz := fun (h : R2 = false) => badF_zero (decl := decl) (V := visT (tget t.ks j) (boundP ns ⟨k, op, pl, nn, nm, ar, ex⟩ j)) (by rw [hR]; exact h)
        rw [hR] at hz
        have HFE2 := Lib.hid hfe; have HZ := Lib.hid hz
        clear hfe hz hR HFE
        refine wpAnyH_take (i := 11) (v := .tuple #[.int .i64 R1, .bool R2]) rfl (by kernel_rfl) (by kernel_rfl) (by kernel_rfl) (fun _ _ _ h => h) (Or.inl ⟨by rfl, ?_⟩) (by assumption) ?_
        · intro w' hSw
          obtain ⟨⟨g0, g1, g2, g3, g4, g5, g6, g7⟩, d0, d1, d2, d3, d4, d5, d6, d7⟩ := cells8' hSw.1.box
          have c0 := hSw.1.kid 0 _ rfl; have c1 := hSw.1.kid 1 _ rfl; have c2 := hSw.1.kid 2 _ rfl; have c3 := hSw.1.kid 3 _ rfl; have c4 := hSw.1.kid 4 _ rfl; have c5 := hSw.1.kid 5 _ rfl; have c6 := hSw.1.kid 6 _ rfl; have c7 := hSw.1.kid 7 _ rfl
          simp only [Nat.add_zero] at c0
          first | go_simp | rfl
        try simp only [Act.put, List.getElem_toArray, List.getElem_cons_succ, List.getElem_cons_zero, List.setIfInBounds_toArray, List.set_cons_zero, List.set_cons_succ]
        refine wpAnyH_take (i := 12) (v := .int .i64 R1) rfl (by kernel_rfl) (by kernel_rfl) (by kernel_rfl) (fun _ _ _ h => h) (Or.inl ⟨by rfl, ?_⟩) (by assumption) ?_
        · intro w' hSw
          obtain ⟨⟨g0, g1, g2, g3, g4, g5, g6, g7⟩, d0, d1, d2, d3, d4, d5, d6, d7⟩ := cells8' hSw.1.box
          have c0 := hSw.1.kid 0 _ rfl; have c1 := hSw.1.kid 1 _ rfl; have c2 := hSw.1.kid 2 _ rfl; have c3 := hSw.1.kid 3 _ rfl; have c4 := hSw.1.kid 4 _ rfl; have c5 := hSw.1.kid 5 _ rfl; have c6 := hSw.1.kid 6 _ rfl; have c7 := hSw.1.kid 7 _ rfl
          simp only [Nat.add_zero] at c0
          first | go_simp | rfl
        try simp only [Act.put, List.getElem_toArray, List.getElem_cons_succ, List.getElem_cons_zero, List.setIfInBounds_toArray, List.set_cons_zero, List.set_cons_succ]
        refine wpAnyH_take (i := 13) (v := .bool R2) rfl (by kernel_rfl) (by kernel_rfl) (by kernel_rfl) (fun _ _ _ h => h) (Or.inl ⟨by rfl, ?_⟩) (by assumption) ?_
        · intro w' hSw
          obtain ⟨⟨g0, g1, g2, g3, g4, g5, g6, g7⟩, d0, d1, d2, d3, d4, d5, d6, d7⟩ := cells8' hSw.1.box
          have c0 := hSw.1.kid 0 _ rfl; have c1 := hSw.1.kid 1 _ rfl; have c2 := hSw.1.kid 2 _ rfl; have c3 := hSw.1.kid 3 _ rfl; have c4 := hSw.1.kid 4 _ rfl; have c5 := hSw.1.kid 5 _ rfl; have c6 := hSw.1.kid 6 _ rfl; have c7 := hSw.1.kid 7 _ rfl
          simp only [Nat.add_zero] at c0
          first | go_simp | rfl
        try simp only [Act.put, List.getElem_toArray, List.getElem_cons_succ, List.getElem_cons_zero, List.setIfInBounds_toArray, List.set_cons_zero, List.set_cons_succ]
        refine wpAnyH_ready (rs := [14]) (by kernel_rfl) (by simp) ?_
        refine AllReadyH.cons rfl (fun K hK => ?_) AllReadyH.nil
        have HK2 := Lib.hid hK
        clear hK
        go_simp
        refine HK2.out _ _ HS2.out (fun hHeld => ?_)
        clear HK2
        try simp only [Act.put, List.getElem_toArray, List.getElem_cons_succ, List.getElem_cons_zero, List.setIfInBounds_toArray, List.set_cons_zero, List.set_cons_succ]
        clear K
        refine wpAnyH_ready (rs := [15]) (by kernel_rfl) (by simp) ?_
        refine AllReadyH.cons rfl (fun K hK => ?_) AllReadyH.nil
        have HK2 := Lib.hid hK
        clear hK
        go_simp
        refine HK2.out _ _ HS2.out (fun hHeld => ?_)
        clear HK2
        try simp only [Act.put, List.getElem_toArray, List.getElem_cons_succ, List.getElem_cons_zero, List.setIfInBounds_toArray, List.set_cons_zero, List.set_cons_succ]
        clear K
        refine wpAnyH_done (by kernel_rfl) ?_ _
        clear hHeld
        cases R2
        · have hfe := HFE2.out
          rw [if_neg (by simp)] at hfe
          have hnx : BdI w #[.int .u8 k, .int .u8 op, .int .i64 pl, .int .i64 nn, .string nm, .string ar, .string ex, .slice (some ⟨b, o, none⟩) l c] t ns decl FIN (j + 1) w2 := ⟨HI.out.below.trans (HS2.out.2.mono HI.out.below.size), by rw [HSL.out.2.2.1]; exact hfe⟩
          have HNX := Lib.hid hnx
          clear hnx hfe
          go_wp2_with (fail)
          go_roundw
          case rel => exact ⟨j + 1, by omega, by go_num, HNX⟩
          case measure => simp [intOf]; omega
        · have hfe := HFE2.out
          rw [if_pos rfl] at hfe
          have HFF := Lib.hid hfe
          clear hfe
          go_wp2_with (fail)
          refine bodyPost_ret (v := .tuple #[.int .i64 R1, .bool true]) (by simp [results, Tryd.results28, go_sem]) rfl ⟨by rw [← HFF.out], HS2.out.1.below⟩
      · obtain rfl : j = l := by omega
        have hfe := HI.out.eq
        rw [List.drop_eq_nil_of_le (by rw [HSL.out.2.2.2]; exact Nat.le_refl _), visK_nil, badF_nil] at hfe
        have HFE := Lib.hid hfe; have HWR := Lib.hid hwr
        clear hfe hwr hbx
        go_wp2_with (fail)
        refine bodyPost_ret (v := .tuple #[.int .i64 0, .bool false]) (by simp [results, Tryd.results28, go_sem]) rfl ⟨by rw [← HFE.out], HWR.out⟩
end Scope
end Go.Proofs.YtkcadkjpneoobaaDoor
