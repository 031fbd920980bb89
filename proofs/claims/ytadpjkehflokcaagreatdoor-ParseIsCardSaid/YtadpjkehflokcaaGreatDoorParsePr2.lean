/- The program's reading of a text: programs. -/
import Derived.Test.YtadpjkehflokcaaGreatDoorGProgB
import Derived.Test.YtadpjkehflokcaaGreatDoorGProgA
import Derived.Deep.RegionHeld3
namespace Go.Proofs.YtadpjkehflokcaaGreatDoor
open Go.RowKit
set_option linter.unusedVariables false
set_option linter.unusedSimpArgs false
namespace Parse
open Token (Tok tel ToksAt BytesIn LexEnd lex endT tcells)
open Term (Tm Hd TmIs Kids ret_bool ret_i64 Reads veil Flat)
set_option maxRecDepth 100000 in
set_option maxHeartbeats 25600000 in
theorem wholeP_mid (p : Option Addr) (n d : Nat) (xs : List Int) (w : World) (hb : BytesIn w p n d xs) (hl : Words.Laid2 w) (hsm : xs.length ≤ 65536) (hmid : ∀ us, Token.lex xs 0 = .inr us → us.length ≤ 4000) :
    Calls Tryz.prog 18 #[.slice p n d, .func (.func 19) #[] #[]] w (ProgRet (progRes xs) w) := by
  have hmf : ∀ (fn : Fn) (first cap : Array Value) (w : World), (Instr.makeFunc fn first cap).run Tryz.prog w = .ok (.func fn first cap) w := fun _ _ _ _ => rfl
  have hbx : ∀ A B C : Obj, Below w.heap.size w (((w.alloc A).alloc B).alloc C) := fun A B C => (((Below.refl _ _).alloc (Nat.le_refl _) A).alloc (by simp) B).alloc (by simp; omega) C
  have hlx := fun A B C => Token.lex_walk p n d xs (((w.alloc A).alloc B).alloc C) (hb.below (hbx A B C)) (hl.below (hbx A B C))
  have HLX := Lib.hid hlx; have HL := Lib.hid hl; have HSM := Lib.hid hsm
  have hxn := hb.1
  have HXN := Lib.hid hxn
  clear hlx hl hbx hb hxn hsm
  go_enter_defers Tryz.func18, Tryz.ntmps18
  go_wp2_with (fail)
  refine (HLX.out _ _ _).mono ?_
  rintro e w1 ⟨hbl, (⟨h1, q, c, rfl⟩ | ⟨h1, q, c, k, hk, rfl⟩ | ⟨h1, ts, g, c, hk, rfl, ht⟩)⟩
  · exact absurd h1 (by have := HSM.out; omega)
  · obtain ⟨b0, b1, b2, hB⟩ := boxes3 hbl
    have l0 := lt_of_block b0; have l1 := lt_of_block b1; have l2 := lt_of_block b2
    obtain ⟨⟨r0, r1, r2, r3, r4, r5, r6, r7, rx⟩, f0, f1, f2, f3, f4, f5, f6, f7, fx⟩ := cells9' b0
    obtain ⟨s0, s1⟩ := cells1' (N := w.heap.size + 1) b1
    obtain ⟨t0, t1⟩ := cells1' (N := w.heap.size + 1 + 1) b2
    have u0 := (Below.heap_setCell (w1.setCell ⟨w.heap.size + 1, 0, none⟩ (.int .i64 (k : Int))) ⟨w.heap.size + 1 + 1, 0, none⟩ (.int .i64 2) w.heap.size (by show w.heap.size ≠ w.heap.size + 1 + 1; omega)).trans ((Below.heap_setCell w1 ⟨w.heap.size + 1, 0, none⟩ (.int .i64 (k : Int)) w.heap.size (by show w.heap.size ≠ w.heap.size + 1; omega)).trans b0)
    have u1 := (Below.heap_setCell (w1.setCell ⟨w.heap.size + 1, 0, none⟩ (.int .i64 (k : Int))) ⟨w.heap.size + 1 + 1, 0, none⟩ (.int .i64 2) (w.heap.size + 1) (by show w.heap.size + 1 ≠ w.heap.size + 1 + 1; omega)).trans (set_block (j := 0) (v := .int .i64 (k : Int)) b1)
    have u2 := set_block (j := 0) (v := .int .i64 2) ((Below.heap_setCell w1 ⟨w.heap.size + 1, 0, none⟩ (.int .i64 (k : Int)) (w.heap.size + 1 + 1) (by show w.heap.size + 1 + 1 ≠ w.heap.size + 1; omega)).trans b2)
    have hBU := (hB.trans (set_above (B := w.heap.size) w1 (w.heap.size + 1) 0 (.int .i64 (k : Int)) (by omega))).trans (set_above (B := w.heap.size) _ (w.heap.size + 1 + 1) 0 (.int .i64 2) (by omega))
    have HBZ0 := Lib.hid u0; have HBZ1 := Lib.hid u1; have HBZ2 := Lib.hid u2; have HBU := Lib.hid hBU
    clear u0 u1 u2 hBU
    clear hbl b0 b1 b2 hB
    go_wp2_with (fail)
    generalize hg : (w1.setCell ⟨w.heap.size + 1, 0, none⟩ (.int .i64 (k : Int))).setCell ⟨w.heap.size + 1 + 1, 0, none⟩ (.int .i64 2) = u at *
    clear hg r0 r1 r2 r3 r4 r5 r6 r7 rx f0 f1 f2 f3 f4 f5 f6 f7 fx s0 s1 t0 t1 l0 l1 l2
    rename_i K1 a1 K2 a2
    have A2 := Lib.hid a2
    clear a1 a2
    refine wp_region_noPanic ?_
    refine wp_region_held_drew (S := fun W => W.heap[w.heap.size]? = some (.cells #[.slice none 0 0, .int .u8 0, .int .u8 0, .int .i64 0, .int .i64 0, .string ⟨#[]⟩, .string ⟨#[]⟩, .string ⟨#[]⟩, .slice none 0 0] 31 (0, 0)) ∧ W.heap[w.heap.size + 1]? = some (.cells #[.int .i64 (k : Int)] 3 (0, 0)) ∧ W.heap[w.heap.size + 1 + 1]? = some (.cells #[.int .i64 2] 32 (0, 0)) ∧ Below w.heap.size w W) (by kernel_rfl) ⟨HBZ0.out, HBZ1.out, HBZ2.out, HBU.out.trans ((Below.refl _ _).drew)⟩ (fun hHeld => ?_)
    generalize hv : u.drew = v at hHeld ⊢
    clear hv
    refine wpAnyH_take (i := 0) (v := .agg #[.slice none 0 0, .int .u8 0, .int .u8 0, .int .i64 0, .int .i64 0, .string ⟨#[]⟩, .string ⟨#[]⟩, .string ⟨#[]⟩, .slice none 0 0]) rfl (by kernel_rfl) (by kernel_rfl) (by kernel_rfl) (fun _ _ _ h => h) (Or.inl ⟨by rfl, ?_⟩) (by assumption) ?_
    · intro w' hSw
      obtain ⟨⟨q0, q1, q2, q3, q4, q5, q6, q7, qx⟩, e0, e1, e2, e3, e4, e5, e6, e7, ex⟩ := cells9' hSw.1
      go_simp
    try simp only [Act.put, List.getElem_toArray, List.getElem_cons_succ, List.getElem_cons_zero, List.setIfInBounds_toArray, List.set_cons_zero, List.set_cons_succ]
    refine wpAnyH_take (i := 1) (v := .int .i64 (k : Int)) rfl (by kernel_rfl) (by kernel_rfl) (by kernel_rfl) (fun _ _ _ h => h) (Or.inl ⟨by rfl, ?_⟩) (by assumption) ?_
    · intro w' hSw
      obtain ⟨q0, e0⟩ := cells1' hSw.2.1
      go_simp
    try simp only [Act.put, List.getElem_toArray, List.getElem_cons_succ, List.getElem_cons_zero, List.setIfInBounds_toArray, List.set_cons_zero, List.set_cons_succ]
    refine wpAnyH_take (i := 2) (v := .int .i64 2) rfl (by kernel_rfl) (by kernel_rfl) (by kernel_rfl) (fun _ _ _ h => h) (Or.inl ⟨by rfl, ?_⟩) (by assumption) ?_
    · intro w' hSw
      obtain ⟨q0, e0⟩ := cells1' hSw.2.2.1
      go_simp
    try simp only [Act.put, List.getElem_toArray, List.getElem_cons_succ, List.getElem_cons_zero, List.setIfInBounds_toArray, List.set_cons_zero, List.set_cons_succ]
    refine wpAnyH_ready (rs := [3]) (by kernel_rfl) (by simp) ?_
    refine AllReadyH.cons rfl (fun K hK => ?_) AllReadyH.nil
    have HH := Lib.hid hHeld
    clear hHeld
    rw [if_pos (by rfl)]
    refine wp_store9 _ _ _ _ _ _ _ _ _ _ _ _ _ _ _ _ _ _ _ _ _ _ _ _ _ _ _ _ _ _ _ _ rfl rfl HH.out.1 ?_
    refine hK.out _ _ ?_ (fun hHeld => ?_)
    · exact ⟨set9_block HH.out.1, (set9_other v w.heap.size _ _ _ _ _ _ _ _ _ (w.heap.size + 1) (by omega)).trans HH.out.2.1, (set9_other v w.heap.size _ _ _ _ _ _ _ _ _ (w.heap.size + 1 + 1) (by omega)).trans HH.out.2.2.1, HH.out.2.2.2.trans (Below.set9 w v _ (Nat.le_refl _) _ _ _ _ _ _ _ _ _)⟩
    clear hK K HH
    generalize hg : (((((((((v.setCell ⟨w.heap.size, 0, none⟩ (.slice none 0 0)).setCell ⟨w.heap.size, 1, none⟩ (.int .u8 0)).setCell ⟨w.heap.size, 2, none⟩ (.int .u8 0)).setCell ⟨w.heap.size, 3, none⟩ (.int .i64 0)).setCell ⟨w.heap.size, 4, none⟩ (.int .i64 0)).setCell ⟨w.heap.size, 5, none⟩ (.string ⟨#[]⟩)).setCell ⟨w.heap.size, 6, none⟩ (.string ⟨#[]⟩)).setCell ⟨w.heap.size, 7, none⟩ (.string ⟨#[]⟩)).setCell ⟨w.heap.size, 8, none⟩ (.slice none 0 0)) = v2 at hHeld ⊢
    clear hg
    refine wpAnyH_ready (rs := [4]) (by kernel_rfl) (by simp) ?_
    refine AllReadyH.cons rfl (fun K hK => ?_) AllReadyH.nil
    have HH := Lib.hid hHeld
    clear hHeld
    rw [if_pos (by rfl)]
    refine wp_store1i _ _ _ _ _ _ _ _ _ _ _ _ rfl rfl HH.out.2.1 ?_
    refine hK.out _ _ ?_ (fun hHeld => ?_)
    · have n1 : w.heap.size ≠ w.heap.size + 1 := by omega
      have n2 : w.heap.size + 1 + 1 ≠ w.heap.size + 1 := by omega
      exact ⟨(Below.heap_setCell v2 ⟨w.heap.size + 1, 0, none⟩ (.int .i64 (k : Int)) w.heap.size n1).trans HH.out.1, set_block HH.out.2.1, (Below.heap_setCell v2 ⟨w.heap.size + 1, 0, none⟩ (.int .i64 (k : Int)) (w.heap.size + 1 + 1) n2).trans HH.out.2.2.1, HH.out.2.2.2.trans (set_above (B := w.heap.size) v2 (w.heap.size + 1) 0 _ (by omega))⟩
    clear hK K HH
    generalize hg : v2.setCell ⟨w.heap.size + 1, 0, none⟩ (.int .i64 (k : Int)) = v3 at hHeld ⊢
    clear hg
    refine wpAnyH_ready (rs := [5]) (by kernel_rfl) (by simp) ?_
    refine AllReadyH.cons rfl (fun K hK => ?_) AllReadyH.nil
    have HH := Lib.hid hHeld
    clear hHeld
    rw [if_pos (by rfl)]
    refine wp_store1e _ _ _ _ _ _ _ _ _ _ _ _ rfl rfl HH.out.2.2.1 ?_
    refine hK.out _ _ ?_ (fun hHeld => ?_)
    · have n1 : w.heap.size ≠ w.heap.size + 1 + 1 := by omega
      have n2 : w.heap.size + 1 ≠ w.heap.size + 1 + 1 := by omega
      exact ⟨(Below.heap_setCell v3 ⟨w.heap.size + 1 + 1, 0, none⟩ (.int .i64 2) w.heap.size n1).trans HH.out.1, (Below.heap_setCell v3 ⟨w.heap.size + 1 + 1, 0, none⟩ (.int .i64 2) (w.heap.size + 1) n2).trans HH.out.2.1, set_block HH.out.2.2.1, HH.out.2.2.2.trans (set_above (B := w.heap.size) v3 (w.heap.size + 1 + 1) 0 _ (by omega))⟩
    clear hK K HH
    generalize hg : v3.setCell ⟨w.heap.size + 1 + 1, 0, none⟩ (.int .i64 2) = v4 at hHeld ⊢
    clear hg
    refine wpAnyH_done (by kernel_rfl) ?_ _
    refine NoPanic.normal ?_
    have HH := Lib.hid hHeld
    clear hHeld
    have a2 := A2.out
    go_wp2_with (fail)
    obtain ⟨⟨q0, q1, q2, q3, q4, q5, q6, q7, qx⟩, e0, e1, e2, e3, e4, e5, e6, e7, ex⟩ := cells9' HH.out.1
    obtain ⟨qa, ea⟩ := cells1' HH.out.2.1
    obtain ⟨qb, eb⟩ := cells1' HH.out.2.2.1
    refine ⟨.tuple #[.agg #[.slice none 0 0, .int .u8 0, .int .u8 0, .int .i64 0, .int .i64 0, .string ⟨#[]⟩, .string ⟨#[]⟩, .string ⟨#[]⟩, .slice none 0 0], .int .i64 (k : Int), .int .i64 2], by simp [results, Tryz.results18, go_sem, q0, q1, q2, q3, q4, q5, q6, q7, qx, qa, qb], HH.out.2.2.2, .inl ⟨(k : Int), 2, (by unfold progRes; rw [if_neg (by omega), hk]), rfl⟩⟩
  · obtain ⟨ht, hcn, hcm⟩ := ht
    obtain ⟨b0, b1, b2, hB⟩ := boxes3 hbl
    have l0 := lt_of_block b0; have l1 := lt_of_block b1; have l2 := lt_of_block b2
    obtain ⟨⟨r0, r1, r2, r3, r4, r5, r6, r7, rx⟩, f0, f1, f2, f3, f4, f5, f6, f7, fx⟩ := cells9' b0
    obtain ⟨s0, s1⟩ := cells1' (N := w.heap.size + 1) b1
    obtain ⟨t0, t1⟩ := cells1' (N := w.heap.size + 1 + 1) b2
    have hT0 : 0 < (ts ++ [endT xs.length]).length := by simp
    have hg1 := toks_ne ht hT0 b1
    have hg2 := toks_ne ht hT0 b2
    have hgl : g < w1.heap.size := by obtain ⟨t0', _, _⟩ := ht 0 hT0; exact World.block_lt_of_cell? w1 _ t0'
    have u0 := (Below.heap_setCell (w1.setCell ⟨w.heap.size + 1, 0, none⟩ (.int .i64 0)) ⟨w.heap.size + 1 + 1, 0, none⟩ (.int .i64 0) w.heap.size (by show w.heap.size ≠ w.heap.size + 1 + 1; omega)).trans ((Below.heap_setCell w1 ⟨w.heap.size + 1, 0, none⟩ (.int .i64 0) w.heap.size (by show w.heap.size ≠ w.heap.size + 1; omega)).trans b0)
    have u1 := (Below.heap_setCell (w1.setCell ⟨w.heap.size + 1, 0, none⟩ (.int .i64 0)) ⟨w.heap.size + 1 + 1, 0, none⟩ (.int .i64 0) (w.heap.size + 1) (by show w.heap.size + 1 ≠ w.heap.size + 1 + 1; omega)).trans (set_block (j := 0) (v := .int .i64 0) b1)
    have u2 := set_block (j := 0) (v := .int .i64 0) ((Below.heap_setCell w1 ⟨w.heap.size + 1, 0, none⟩ (.int .i64 0) (w.heap.size + 1 + 1) (by show w.heap.size + 1 + 1 ≠ w.heap.size + 1; omega)).trans b2)
    have hBU := (hB.trans (set_above (B := w.heap.size) w1 (w.heap.size + 1) 0 (.int .i64 0) (by omega))).trans (set_above (B := w.heap.size) _ (w.heap.size + 1 + 1) 0 (.int .i64 0) (by omega))
    have HBZ0 := Lib.hid u0; have HBZ1 := Lib.hid u1; have HBZ2 := Lib.hid u2; have HBU := Lib.hid hBU
    have htu : ToksAt ((w1.setCell ⟨w.heap.size + 1, 0, none⟩ (.int .i64 0)).setCell ⟨w.heap.size + 1 + 1, 0, none⟩ (.int .i64 0)) g (ts ++ [endT xs.length]) := ToksAt.far ht ((Below.heap_setCell (w1.setCell ⟨w.heap.size + 1, 0, none⟩ (.int .i64 0)) ⟨w.heap.size + 1 + 1, 0, none⟩ (.int .i64 0) g hg2).trans (Below.heap_setCell w1 ⟨w.heap.size + 1, 0, none⟩ (.int .i64 0) g hg1))
    have HTU := Lib.hid htu; have HK := Lib.hid hk; have HCN := Lib.hid (And.intro hcn hcm)
    have hlen := Token.lex_len hk
    have hle : ts.length ≤ 4000 := hmid ts HK.out
    have ha : IntKind.i64.wrap (((ts.length + 1 : Nat) : Int) - 1) = (ts.length : Int) := by rw [show ((ts.length + 1 : Nat) : Int) - 1 = (ts.length : Int) by omega]; exact IntWalk.i64_in _ (by omega)
    have ha' : IntKind.i64.wrap ((ts.length : Int) + 1 - 1) = (ts.length : Int) := by rw [show (ts.length : Int) + 1 - 1 = (ts.length : Int) by omega]; exact IntWalk.i64_in _ (by omega)
    have hbz : ¬ (4000 : Int) < (ts.length : Int) := by omega
    have HLE := Lib.hid hle
    clear u0 u1 u2 hBU htu hk hcn hcm ht hT0 hg1 hg2 hlen hle hgl
    clear hbl b0 b1 b2 hB
    go_wp2_with (fail)
    generalize hgu : (w1.setCell ⟨w.heap.size + 1, 0, none⟩ (.int .i64 0)).setCell ⟨w.heap.size + 1 + 1, 0, none⟩ (.int .i64 0) = u at *
    have hsz : u.heap.size = w1.heap.size := by rw [← hgu]; simp [World.setCell]
    clear hgu r0 r1 r2 r3 r4 r5 r6 r7 rx f0 f1 f2 f3 f4 f5 f6 f7 fx s0 s1 t0 t1
    have hP : w.heap.size + 2 < w1.heap.size := l2
    rw [← hsz] at hP l0 l1 l2 ⊢
    clear hsz
    have hGd := good_of_lex HK.out
    have hgl : g < u.heap.size := by obtain ⟨t0', _, _⟩ := HTU.out 0 (by simp); exact World.block_lt_of_cell? u _ t0'
    have hal : ∀ O : Obj, Below u.heap.size u (u.alloc O) := fun O => (Below.refl _ _).alloc (Nat.le_refl _) O
    have hpr : PR (u.alloc (.cells #[.slice (some ⟨g, 0, none⟩) (ts.length + 1) c] 86)) u.heap.size g (ts.length + 1) c 0 (ts ++ [endT xs.length]) := by
      refine ⟨row_of_lex HK.out (by have := HSM.out; omega) (ToksAt.far HTU.out ((hal _).block _ hgl)) HCN.out.1 HCN.out.2, by omega, hGd, by omega, ?_⟩
      have hh := heap_alloc_new u (.cells #[.slice (some ⟨g, 0, none⟩) (ts.length + 1) c] 86)
      unfold PAt
      rw [hh]
      simp
    have hlay : Lay (u.alloc (.cells #[.slice (some ⟨g, 0, none⟩) (ts.length + 1) c] 86)) u.heap.size := lay_of HL.out.2 (HBU.out.trans ((Below.refl _ u).alloc (by omega) _)) (by omega)
    obtain ⟨r, hr⟩ := prog_enough hGd.row
    have hres : progRes xs = qresOf (ts ++ [endT xs.length]) (exnsF (ts ++ [endT xs.length]) (ts ++ [endT xs.length]).length ⟨0, false⟩).1 (some r) := by
      unfold progRes
      rw [if_neg (by have := HSM.out; omega), HK.out]
      show qtoksRes ts xs.length = _
      unfold qtoksRes
      rw [if_neg (by have := HLE.out; omega), hr]
    have hex := prog_walk (fuelOf (ts ++ [endT xs.length])) _ _ _ _ _ _ r hpr hlay (by have := HLE.out; omega) hr
    have HEX := Lib.hid hex; have HRES := Lib.hid hres; have HGD := Lib.hid hGd
    have HZA := Lib.hid (And.intro (((hal (.cells #[.slice (some ⟨g, 0, none⟩) (ts.length + 1) c] 86)).block _ l0).trans HBZ0.out) (And.intro (((hal (.cells #[.slice (some ⟨g, 0, none⟩) (ts.length + 1) c] 86)).block _ l1).trans HBZ1.out) (((hal (.cells #[.slice (some ⟨g, 0, none⟩) (ts.length + 1) c] 86)).block _ l2).trans HBZ2.out)))
    have HBW := Lib.hid (HBU.out.trans ((Below.refl w.heap.size u).alloc (by omega) (.cells #[.slice (some ⟨g, 0, none⟩) (ts.length + 1) c] 86)))
    clear hGd hpr hlay hr hres hex hal HTU HBZ0 HBZ1 HBZ2
    refine HEX.out.mono ?_
    rintro e y0 (⟨hbd, ⟨qe, me, de, h, p0, l, d0, rfl, hOw, hT⟩, ho, hp⟩ | ⟨hbd, rfl, ho⟩)
    rotate_left
    · unfold thrown strayV
      have HZ0 := Lib.hid (box_later HZA.out.1 ho (by omega)); have HZ1 := Lib.hid (box_later HZA.out.2.1 ho (by omega)); have HZ2 := Lib.hid (box_later HZA.out.2.2 ho (by omega))
      have HBY : Hid (Below w.heap.size w y0) := Lib.hid ⟨ho.os.trans HBW.out.os, ho.tape.trans HBW.out.tape, ho.output.trans HBW.out.output, Nat.le_trans HBW.out.size ho.size, fun k hk => (ho.block k (Nat.lt_of_lt_of_le hk HBW.out.size) (by omega)).trans (HBW.out.block k hk)⟩
      have HRS : Hid (progRes xs = .bad (tel (ts ++ [endT xs.length]) r.1.i).a 2) := Lib.hid (by rw [HRES.out]; unfold qresOf; exact if_neg (by rw [hbd]; simp))
      clear hbd ho ha ha' hbz
      go_wp2_with (fail)
      refine leaves_cons (f := 40) (args := #[.pointer (some ⟨w.heap.size + 1, 0, none⟩), .pointer (some ⟨w.heap.size + 1 + 1, 0, none⟩)]) (by simp) (by simp [go_sem]) ?_
      obtain ⟨q1, e1⟩ := cells1' HZ1.out
      obtain ⟨q2, e2⟩ := cells1' HZ2.out
      refine (catchP_stray (w.heap.size + 1) (w.heap.size + 1 + 1) (tel (ts ++ [endT xs.length]) r.1.i) 0 0 _ q1 q2 e1 e2 (by omega) (by omega) (lt_of_block HZ1.out) (lt_of_block HZ2.out)).mono ?_
      rintro e u' w'' ⟨rfl, rfl, rfl⟩
      obtain ⟨⟨b0, b1, b2, b3, b4, b5, b6, b7, bx⟩, f0, f1, f2, f3, f4, f5, f6, f7, fx⟩ := cells9' HZ0.out
      have l0 := lt_of_block HZ0.out
      have l1 := lt_of_block HZ1.out
      have l2 := lt_of_block HZ2.out
      have n1 : ¬ w.heap.size = w.heap.size + 1 := by omega
      have n2 : ¬ w.heap.size = w.heap.size + 1 + 1 := by omega
      have n3 : ¬ w.heap.size + 1 = w.heap.size := by omega
      have n4 : ¬ w.heap.size + 1 + 1 = w.heap.size := by omega
      refine ⟨Value.tuple #[.agg #[.slice none 0 0, .int .u8 0, .int .u8 0, .int .i64 0, .int .i64 0, .string ⟨#[]⟩, .string ⟨#[]⟩, .string ⟨#[]⟩, .slice none 0 0], .int .i64 (tel (ts ++ [endT xs.length]) r.1.i).a, .int .i64 2], by simp [results, Tryz.results18, go_sem, b0, b1, b2, b3, b4, b5, b6, b7, bx, l0, l1, l2, q1, q2], ?_⟩
      refine ⟨(HBY.out.trans ((set_above (B := w.heap.size) _ (w.heap.size + 1) 0 _ (by omega)).trans (set_above (B := w.heap.size) _ (w.heap.size + 1 + 1) 0 _ (by omega)))).alloc (by have := HBY.out.size; simpa [World.setCell] using this) _, .inl ⟨_, _, HRS.out, rfl⟩⟩
    have HZ0 := Lib.hid (box_later HZA.out.1 ho (by omega)); have HZ1 := Lib.hid (box_later HZA.out.2.1 ho (by omega)); have HZ2 := Lib.hid (box_later HZA.out.2.2 ho (by omega))
    have HBY : Hid (Below w.heap.size w y0) := Lib.hid ⟨ho.os.trans HBW.out.os, ho.tape.trans HBW.out.tape, ho.output.trans HBW.out.output, Nat.le_trans HBW.out.size ho.size, fun k hk => (ho.block k (Nat.lt_of_lt_of_le hk HBW.out.size) (by omega)).trans (HBW.out.block k hk)⟩
    have hbx2 : ∀ O O' : Obj, Below y0.heap.size y0 ((y0.alloc O).alloc O') := fun O O' => ((Below.refl _ _).alloc (Nat.le_refl _) O).alloc (by simp) O'
    have hhs := fun O t => has_walk ((y0.alloc O).alloc (.cells #[.int .u8 6] t)) u.heap.size g (ts.length + 1) c r.1.i (ts ++ [endT xs.length]) (some ⟨y0.heap.size + 1, 0, none⟩) 1 1 [6] (hp.below (hbx2 _ _)) rfl (by unfold maxLen; omega) (fun W' hb' => by
      have hx := bytes_alloc (y0.alloc O) t [6]
      rw [show (y0.alloc O).heap.size = y0.heap.size + 1 from by simp] at hx
      rcases hx with hh | ⟨b, o, e, hc⟩
      · cases hh
      · exact .inr ⟨b, o, e, fun j hj => (hb'.cell (p := ⟨b, o + j, none⟩) (World.block_lt_of_cell? _ _ (hc j hj))).trans (hc j hj)⟩)
    have hsu : u.heap.size < y0.heap.size := Nat.lt_of_lt_of_le (by simp) ho.size
    have HHS := Lib.hid hhs; have HP := Lib.hid hp; have HT := Lib.hid hT; have HOW := Lib.hid hOw; have HBD := Lib.hid hbd; have HSU := Lib.hid hsu
    clear hhs hbx2 hp hT hOw hbd ho hsu ha ha' hbz
    go_wp2_with (fail)
    refine (HHS.out _ _).mono ?_
    rintro e y1 ⟨rfl, hb1⟩
    have hbb : Below y0.heap.size y0 y1 ∧ y1.heap[y0.heap.size]? = some (.cells #[.slice qe me de, .int .u8 h.k, .int .u8 h.op, .int .i64 h.pl, .int .i64 h.n, .string h.name, .string h.arg, .string h.exn, .slice p0 l d0] 31 (0, 0)) := by
      obtain ⟨_, hb2⟩ := one_box hb1
      obtain ⟨hb3, hb4⟩ := one_box hb2
      exact ⟨hb4, hb3⟩
    obtain ⟨hb2, htb⟩ := hbb
    have HB2 := Lib.hid hb2; have HTB := Lib.hid htb
    have HY0 := Lib.hid ((hb2.block _ (lt_of_block HZ0.out)).trans HZ0.out); have HY1 := Lib.hid ((hb2.block _ (lt_of_block HZ1.out)).trans HZ1.out); have HY2 := Lib.hid ((hb2.block _ (lt_of_block HZ2.out)).trans HZ2.out)
    have HBY1 : Hid (Below w.heap.size w y1) := Lib.hid (HBY.out.trans (hb2.mono HBY.out.size))
    clear hb1 hb2 htb HHS HZ0 HZ1 HZ2 HBY
    cases hk : Chars.isin [6] (tel (ts ++ [endT xs.length]) r.1.i).k
    · have hk6 : (tel (ts ++ [endT xs.length]) r.1.i).k ≠ 6 := by unfold Chars.isin at hk; simpa using hk
      have hnd := need_walk y1 u.heap.size g (ts.length + 1) c r.1.i (ts ++ [endT xs.length]) (HP.out.below HB2.out)
      have HND := Lib.hid hnd
      unfold thrown strayV at HND
      have HRS : Hid (progRes xs = .bad (tel (ts ++ [endT xs.length]) r.1.i).a 2) := Lib.hid (by rw [HRES.out]; unfold qresOf; exact if_neg fun e => hk6 e.2)
      clear hk hk6 hnd
      go_wp2_with (fail)
      refine HND.out.mono ?_
      rintro e y2 ⟨rfl, hb3⟩
      have HZ0 := Lib.hid ((hb3.block _ (lt_of_block HY0.out)).trans HY0.out); have HZ1 := Lib.hid ((hb3.block _ (lt_of_block HY1.out)).trans HY1.out); have HZ2 := Lib.hid ((hb3.block _ (lt_of_block HY2.out)).trans HY2.out)
      have HBY : Hid (Below w.heap.size w y2) := Lib.hid (HBY1.out.trans (hb3.mono HBY1.out.size))
      clear hb3
      go_wp2_with (fail)
      refine leaves_cons (f := 40) (args := #[.pointer (some ⟨w.heap.size + 1, 0, none⟩), .pointer (some ⟨w.heap.size + 1 + 1, 0, none⟩)]) (by simp) (by simp [go_sem]) ?_
      obtain ⟨q1, e1⟩ := cells1' HZ1.out
      obtain ⟨q2, e2⟩ := cells1' HZ2.out
      refine (catchP_stray (w.heap.size + 1) (w.heap.size + 1 + 1) (tel (ts ++ [endT xs.length]) r.1.i) 0 0 _ q1 q2 e1 e2 (by omega) (by omega) (lt_of_block HZ1.out) (lt_of_block HZ2.out)).mono ?_
      rintro e u' w'' ⟨rfl, rfl, rfl⟩
      obtain ⟨⟨b0, b1, b2, b3, b4, b5, b6, b7, bx⟩, f0, f1, f2, f3, f4, f5, f6, f7, fx⟩ := cells9' HZ0.out
      have l0 := lt_of_block HZ0.out
      have l1 := lt_of_block HZ1.out
      have l2 := lt_of_block HZ2.out
      have n1 : ¬ w.heap.size = w.heap.size + 1 := by omega
      have n2 : ¬ w.heap.size = w.heap.size + 1 + 1 := by omega
      have n3 : ¬ w.heap.size + 1 = w.heap.size := by omega
      have n4 : ¬ w.heap.size + 1 + 1 = w.heap.size := by omega
      refine ⟨Value.tuple #[.agg #[.slice none 0 0, .int .u8 0, .int .u8 0, .int .i64 0, .int .i64 0, .string ⟨#[]⟩, .string ⟨#[]⟩, .string ⟨#[]⟩, .slice none 0 0], .int .i64 (tel (ts ++ [endT xs.length]) r.1.i).a, .int .i64 2], by simp [results, Tryz.results18, go_sem, b0, b1, b2, b3, b4, b5, b6, b7, bx, l0, l1, l2, q1, q2], ?_⟩
      refine ⟨(HBY.out.trans ((set_above (B := w.heap.size) _ (w.heap.size + 1) 0 _ (by omega)).trans (set_above (B := w.heap.size) _ (w.heap.size + 1 + 1) 0 _ (by omega)))).alloc (by have := HBY.out.size; simpa [World.setCell] using this) _, .inl ⟨_, _, HRS.out, rfl⟩⟩
    · have hk6 : (tel (ts ++ [endT xs.length]) r.1.i).k = 6 := by unfold Chars.isin at hk; simpa using hk
      have HRS : Hid (progRes xs = .good (exnsF (ts ++ [endT xs.length]) (ts ++ [endT xs.length]).length ⟨0, false⟩).1 r.2) := Lib.hid (by rw [HRES.out]; unfold qresOf; exact if_pos ⟨HBD.out, hk6⟩)
      clear hk hk6
      go_wp2_with (fail)
      refine (need_ok _ _).mono ?_
      rintro e y2 ⟨rfl, rfl⟩
      obtain ⟨⟨b0, b1, b2, b3, b4, b5, b6, b7, bx⟩, f0, f1, f2, f3, f4, f5, f6, f7, fx⟩ := cells9' HY0.out
      obtain ⟨⟨t0, t1, t2, t3, t4, t5, t6, t7, tx⟩, g0, g1, g2, g3, g4, g5, g6, g7, gx⟩ := cells9' HTB.out
      obtain ⟨q1, e1⟩ := cells1' HY1.out
      obtain ⟨q2, e2⟩ := cells1' HY2.out
      have l0' := lt_of_block HY0.out
      have l1' := lt_of_block HY1.out
      have l2' := lt_of_block HY2.out
      have lt' := lt_of_block HTB.out
      go_wp2_with (fail)
      refine leaves_cons (f := 40) (args := #[.pointer (some ⟨w.heap.size + 1, 0, none⟩), .pointer (some ⟨w.heap.size + 1 + 1, 0, none⟩)]) (by simp) (by simp [go_sem]) ?_
      refine (catchP_idle _ _ _).mono ?_
      rintro e u' w'' ⟨rfl, rfl, rfl⟩
      have n1 : ¬ w.heap.size = w.heap.size + 1 := by omega
      have n2 : ¬ w.heap.size = w.heap.size + 1 + 1 := by omega
      have n3 : ¬ w.heap.size + 1 = w.heap.size := by omega
      have n4 : ¬ w.heap.size + 1 + 1 = w.heap.size := by omega
      refine ⟨Value.tuple #[.agg #[.slice qe me de, .int .u8 h.k, .int .u8 h.op, .int .i64 h.pl, .int .i64 h.n, .string h.name, .string h.arg, .string h.exn, .slice p0 l d0], .int .i64 0, .int .i64 0], by simp [results, Tryz.results18, go_sem, b0, b1, b2, b3, b4, b5, b6, b7, bx, l0', l1', l2', q1, q2], ?_⟩
      have hbw := ((Below.set9 w y1 w.heap.size (Nat.le_refl _) (.slice qe me de) (.int .u8 h.k) (.int .u8 h.op) (.int .i64 h.pl) (.int .i64 h.n) (.string h.name) (.string h.arg) (.string h.exn) (.slice p0 l d0)).trans (set_above (B := w.heap.size) _ (w.heap.size + 1) 0 (.int .i64 0) (by omega))).trans (set_above (B := w.heap.size) _ (w.heap.size + 1 + 1) 0 (.int .i64 0) (by omega))
      have hblk : ∀ k, u.heap.size + 1 ≤ k → k < y0.heap.size → (((((((((((y1.setCell ⟨w.heap.size, 0, none⟩ (.slice qe me de)).setCell ⟨w.heap.size, 1, none⟩ (.int .u8 h.k)).setCell ⟨w.heap.size, 2, none⟩ (.int .u8 h.op)).setCell ⟨w.heap.size, 3, none⟩ (.int .i64 h.pl)).setCell ⟨w.heap.size, 4, none⟩ (.int .i64 h.n)).setCell ⟨w.heap.size, 5, none⟩ (.string h.name)).setCell ⟨w.heap.size, 6, none⟩ (.string h.arg)).setCell ⟨w.heap.size, 7, none⟩ (.string h.exn)).setCell ⟨w.heap.size, 8, none⟩ (.slice p0 l d0)).setCell ⟨w.heap.size + 1, 0, none⟩ (.int .i64 0)).setCell ⟨w.heap.size + 1 + 1, 0, none⟩ (.int .i64 0)).heap[k]? = y0.heap[k]? := fun k hk1 hk2 =>
        ((Below.heap_setCell _ _ _ _ (by show k ≠ w.heap.size + 1 + 1; omega)).trans (Below.heap_setCell _ _ _ _ (by show k ≠ w.heap.size + 1; omega))).trans ((set9_other y1 w.heap.size (.slice qe me de) (.int .u8 h.k) (.int .u8 h.op) (.int .i64 h.pl) (.int .i64 h.n) (.string h.name) (.string h.arg) (.string h.exn) (.slice p0 l d0) k (by omega)).trans (HB2.out.block k hk2))
      refine ⟨HBY1.out.trans hbw, .inr ⟨_, r.2, qe, me, de, h, p0, l, d0, HRS.out, rfl, owns_low (owns_keep HOW.out fun b hb1 hb2 => hblk b (by simpa using hb1) hb2) (by simp; omega), ?_⟩⟩
      refine HT.out.reads' (fresh_step (B := w.heap.size) (W := ((((((((((y1.setCell ⟨w.heap.size, 0, none⟩ (.slice qe me de)).setCell ⟨w.heap.size, 1, none⟩ (.int .u8 h.k)).setCell ⟨w.heap.size, 2, none⟩ (.int .u8 h.op)).setCell ⟨w.heap.size, 3, none⟩ (.int .i64 h.pl)).setCell ⟨w.heap.size, 4, none⟩ (.int .i64 h.n)).setCell ⟨w.heap.size, 5, none⟩ (.string h.name)).setCell ⟨w.heap.size, 6, none⟩ (.string h.arg)).setCell ⟨w.heap.size, 7, none⟩ (.string h.exn)).setCell ⟨w.heap.size, 8, none⟩ (.slice p0 l d0)).setCell ⟨w.heap.size + 1, 0, none⟩ (.int .i64 0)).setCell ⟨w.heap.size + 1 + 1, 0, none⟩ (.int .i64 0)) (by simp; omega) fun k hk1 hk2 => hblk k (by simpa using hk1) hk2)
end Parse
end Go.Proofs.YtadpjkehflokcaaGreatDoor
