/- The walk of layer 6's statement on what is read, shown, read and shown again. -/
import Derived.Test.YtkcadkjpneoobaaGreatDoorParseTup
import Derived.Test.YtkcadkjpneoobaaGreatDoorShowStaysM
import Derived.Test.YtkcadkjpneoobaaGreatDoorGShowC
import Derived.Test.YtkcadkjpneoobaaGreatDoorGTermB
import Derived.Test.YtkcadkjpneoobaaGreatDoorGTokA
import Derived.Lib.ConvBytes
import Derived.Lib.SmallJoins
namespace Go.Proofs.YtkcadkjpneoobaaGreatDoor
open Go.RowKit
set_option linter.unusedVariables false
set_option linter.unusedSimpArgs false
namespace Show
open Parse
open Token (Tok tel jb lex endT BytesIn TextsIn tcells)
open Term (Tm Hd TmIs tget wt wts okT okK sameT sameK sameH mayT)
open Words (nameB exnB ints)

theorem bytes_of (W : World) (s : ByteArray) (hs : s.size ≤ maxLen) (N : Nat) (hN : N = W.heap.size) : BytesIn (Lib.bytesWorld W 5 s) (some ⟨N, 0, none⟩) s.size (grownCap W s.size 0 5) (ints s.data.toList) := by
  subst hN
  exact ⟨Words.ints_size s, grownCap_ge W s.size 0 _, grownCap_le_maxLen W s.size 0 _ hs, Words.bytesAt_new W _ s, Words.ints_bytes _⟩
theorem row_texts {w : World} {B : Nat} {q : Option Addr} {m d : Nat} {es : List Tok} (h : w.ownsRow B 45 3 (.slice q m d) es.length (tcells es)) : es.length = m ∧ TextsIn w q (texE es) := by
  have hm : m = es.length := lenV_owns h
  refine ⟨hm.symm, ?_⟩
  by_cases h0 : es.length = 0
  · exact .inl (by unfold texE; rw [List.eq_nil_of_length_eq_zero h0]; rfl)
  · obtain ⟨g, c, e, ht, _, _⟩ := Token.toks_of_own h (by omega)
    injection e with e1 e2 e3
    rw [e1]
    exact ht.in_
set_option maxRecDepth 100000 in
set_option maxHeartbeats 25600000 in
theorem showStays_walk (p : Option Addr) (n d : Nat) (xs : List Int) (w : World) (hb : BytesIn w p n d xs) (hl : Words.Laid2 w) :
    Calls Tryz.prog 5 #[.slice p n d] w fun e w' => e = .returned (.bool true) ∧ Below w.heap.size w w' := by
  have hn := hb.len.1
  have haw := fun W (hb : Below w.heap.size w W) => awake_walk W (hl.below hb)
  have HB := Lib.hid hb; have HL := Lib.hid hl; have HAW := Lib.hid haw
  clear hb hl haw
  by_cases hbig : 2000 < n
  · have hbi : (2000 : Int) < (n : Int) := by omega
    clear hbig
    go_enter Tryz.func5, Tryz.ntmps5
    go_wp2_with (fail)
    refine (HAW.out _ (Below.refl _ _)).mono ?_
    rintro e w1 ⟨rfl, hb⟩
    have HB1 := Lib.hid hb; clear hb
    go_wp2_with (fail)
    go_ret
    exact ⟨rfl, HB1.out⟩
  have hni : ¬ (2000 : Int) < (n : Int) := by omega
  have hxl : xs.length ≤ 2000 := by rw [HB.out.1]; omega
  have HXL := Lib.hid hxl
  have hpa := parseProg_mid p n d xs w HB.out HL.out (by omega) (few_toks (by omega))
  have HPA := Lib.hid hpa
  clear hpa hbig hxl
  go_enter Tryz.func5, Tryz.ntmps5
  go_wp2_with (fail)
  refine HPA.out.mono ?_
  rintro e w1 h1
  obtain ⟨hb1, q1, m1, e1, k1, op1, pl1, nn1, nm1, ar1, ex1, l1, c1, d1, a1, f1, rfl, hr1⟩ := prog_tuple h1 (few_toks (by have := HXL.out; omega)) (by have := HXL.out; omega)
  have HB1 := Lib.hid hb1; have HR1 := Lib.hid hr1
  have hal1 : Below w1.heap.size w1 (w1.alloc (.cells #[.slice q1 m1 e1, .int .u8 k1, .int .u8 op1, .int .i64 pl1, .int .i64 nn1, .string nm1, .string ar1, .string ex1, .slice l1 c1 d1] 31)) := (Below.refl _ _).alloc (Nat.le_refl _) _
  have HAL1 := Lib.hid hal1
  clear h1 hb1 hr1 hal1 HPA
  by_cases hf : f1 = 0
  · subst hf
    obtain ⟨es, t, hg, hO, hT⟩ := (HR1.out.resolve_left (fun h => h.1 rfl)).2
    obtain ⟨hm, hz, us, x, hg2, hsame, htx, hm2, hw2⟩ := stays HXL.out hg
    obtain ⟨hlen, htex⟩ := row_texts hO
    have hc1 := HB1.out.trans (HAL1.out.mono HB1.out.size)
    have hsz : ∀ y ∈ texE es, y.size ≤ maxLen := fun y hy => by
      have hmm := hm
      unfold mayP at hmm
      rw [Bool.and_eq_true] at hmm
      have := exW_short hmm.2
      have hy2 : y ∈ exW (texE es) := by
        clear hm hz hg2 htx hw2 hmm this hlen htex
        generalize texE es = L at hy
        induction L with
        | nil => cases hy
        | cons z zs ih =>
          show y ∈ wExn :: z :: wSemi :: exW zs
          rcases List.mem_cons.1 hy with rfl | hy
          · simp
          · exact List.mem_cons_of_mem _ (List.mem_cons_of_mem _ (List.mem_cons_of_mem _ (ih hy)))
      have := this y hy2
      unfold maxLen; omega
    have hn1 : m1 ≤ 4000 := by
      have h1 := prog_good (by have := HXL.out; omega) hg
      obtain ⟨ts, _, h2, _, _, h3, _⟩ := h1
      have := HXL.out
      omega
    have hpw := program_walk q1 m1 e1 (texE es) ⟨k1, op1, pl1, nn1, nm1, ar1, ex1⟩ l1 c1 d1 t _ (by unfold texE; rw [List.length_map]; exact hlen) hn1 hsz (htex.below HAL1.out) (hT.below HAL1.out) (HL.out.below hc1)
    unfold ShowEnd at hpw
    obtain ⟨s1, s2⟩ := show_yes hm
    obtain ⟨s3, s4⟩ := show_yes hm2
    rw [s1, s2] at hpw
    rw [hw2] at s3
    have hbx1 : (w1.alloc (.cells #[.slice q1 m1 e1, .int .u8 k1, .int .u8 op1, .int .i64 pl1, .int .i64 nn1, .string nm1, .string ar1, .string ex1, .slice l1 c1 d1] 31)).heap[w1.heap.size]? = some (.cells #[.slice q1 m1 e1, .int .u8 k1, .int .u8 op1, .int .i64 pl1, .int .i64 nn1, .string nm1, .string ar1, .string ex1, .slice l1 c1 d1] 31 (0, 0)) := heap_alloc_new w1 _
    have hlen2 : (texE us).length = es.length := by rw [htx]; unfold texE; rw [List.length_map]
    have hlen3 : us.length = m1 := by
      have : (texE us).length = us.length := by unfold texE; rw [List.length_map]
      omega
    have hT1 := hT.below HAL1.out
    have HPW := Lib.hid hpw; have HZ := Lib.hid hz; have HG2 := Lib.hid hg2; have HS := Lib.hid hsame; have HSH := Lib.hid (And.intro s3 s4); have HT1 := Lib.hid hT1; have HC1 := Lib.hid hc1; have HN1 := Lib.hid (And.intro hn1 hlen3); have HSZ := Lib.hid hsz; have HTX := Lib.hid htx; have HBX := Lib.hid hbx1
    clear hg hO hT hm hz hg2 hsame htx hm2 hw2 hlen htex hc1 hsz hn1 hpw s1 s2 s3 s4 hbx1 hlen2 hlen3 hT1 HR1
    generalize jb (exW (texE es) ++ wordsT t) = S at *
    obtain ⟨⟨b0, b1, b2, b3, b4, b5, b6, b7, b8⟩, f0, f1, f2, f3, f4, f5, f6, f7, f8⟩ := cells9' HBX.out
    have bl := lt_of_block HBX.out
    go_wp2_with (fail)
    refine HPW.out.mono ?_
    rintro e w2 ⟨rfl, hb2⟩
    have hbx2 := (hb2.block _ (lt_of_block HBX.out)).trans HBX.out
    have hbz : Below w2.heap.size w2 (Lib.bytesWorld w2 5 S) := Go.Joins.below_bytesWorld _ _ _ _ (Nat.le_refl _)
    have hc2 := HC1.out.trans (hb2.mono HC1.out.size)
    have hc3 := hc2.trans (hbz.mono hc2.size)
    have hbx3 := (hbz.block _ (lt_of_block hbx2)).trans hbx2
    have hT3 := (HT1.out.below hb2).below hbz
    have hfew : ∀ ts, lex (ints S.data.toList) 0 = .inr ts → ts.length ≤ 4000 := fun ts hl => by
      obtain ⟨ts', _, _, hl', h4, _⟩ := prog_parts HG2.out
      have hl2 : lex (ints (Show.bl S)) 0 = .inr ts := hl
      rw [hl2] at hl'
      injection hl' with e
      rw [e]; exact h4
    have hpt := fun N hN => parseProg_mid (some ⟨N, 0, none⟩) _ _ _ _ (bytes_of w2 S (by have := HZ.out; unfold maxLen; omega) N hN) (HL.out.below hc3) (by rw [Words.ints_length]; exact HZ.out) hfew
    have HPT := Lib.hid hpt; have HFEW := Lib.hid hfew
    have hcv := fun W : World => Lib.run_convert_string_bytes (P := Tryz.prog) W 9 22 5 S (u := .string) Tryz.underlying9 Tryz.underlying22 Tryz.underlying5
    have HC3 := Lib.hid hc3; have HBX3 := Lib.hid hbx3; have HT3 := Lib.hid hT3
    clear hb2 hbx2 hbz hc2 hc3 hbx3 hT3 hpt hfew HPW b0 b1 b2 b3 b4 b5 b6 b7 b8 f0 f1 f2 f3 f4 f5 f6 f7 f8 bl
    go_wp2_with (fail)
    refine (HPT.out _ rfl).mono ?_
    rintro e w3 h3
    obtain ⟨hb3, q2, m2, e2, k2, op2, pl2, nn2, nm2, ar2, ex2, l2, c2, d2, a2, f2, rfl, hr2⟩ := prog_tuple h3 HFEW.out (by rw [Words.ints_length]; exact HZ.out)
    obtain ⟨rfl, us', x', hg3, hO2, hT2⟩ := hr2.resolve_left (fun h => h.2 us x HG2.out)
    obtain ⟨rfl, rfl⟩ : us = us' ∧ x = x' := by
      have e : progRes (ints S.data.toList) = .good us x := HG2.out
      rw [e] at hg3
      injection hg3 with h1 h2
      exact ⟨h1, h2⟩
    obtain ⟨hlen, htex⟩ := row_texts hO2
    have hal2 : Below w3.heap.size w3 (w3.alloc (.cells #[.slice q2 m2 e2, .int .u8 k2, .int .u8 op2, .int .i64 pl2, .int .i64 nn2, .string nm2, .string ar2, .string ex2, .slice l2 c2 d2] 31)) := (Below.refl _ _).alloc (Nat.le_refl _) _
    have hc4 := HC3.out.trans (hb3.mono HC3.out.size)
    have hc5 := hc4.trans (hal2.mono hc4.size)
    have hbx4 := (hal2.block _ (by have := lt_of_block HBX3.out; have := hb3.size; omega)).trans ((hb3.block _ (lt_of_block HBX3.out)).trans HBX3.out)
    have hT4 := (HT3.out.below hb3).below hal2
    have hpw := program_walk q2 m2 e2 (texE us) ⟨k2, op2, pl2, nn2, nm2, ar2, ex2⟩ l2 c2 d2 x _ (by unfold texE; rw [List.length_map]; exact hlen) (by have := HN1.out; omega) (by rw [HTX.out]; exact HSZ.out) (htex.below hal2) (hT2.below hal2) (HL.out.below hc5)
    unfold ShowEnd at hpw
    rw [HSH.out.1, HSH.out.2] at hpw
    have hbx5 : (w3.alloc (.cells #[.slice q2 m2 e2, .int .u8 k2, .int .u8 op2, .int .i64 pl2, .int .i64 nn2, .string nm2, .string ar2, .string ex2, .slice l2 c2 d2] 31)).heap[w3.heap.size]? = some (.cells #[.slice q2 m2 e2, .int .u8 k2, .int .u8 op2, .int .i64 pl2, .int .i64 nn2, .string nm2, .string ar2, .string ex2, .slice l2 c2 d2] 31 (0, 0)) := heap_alloc_new w3 _
    obtain rfl : m2 = m1 := by have := HN1.out; omega
    have hsm := fun W (hb : Below (w3.alloc (.cells #[.slice q2 m2 e2, .int .u8 k2, .int .u8 op2, .int .i64 pl2, .int .i64 nn2, .string nm2, .string ar2, .string ex2, .slice l2 c2 d2] 31)).heap.size (w3.alloc (.cells #[.slice q2 m2 e2, .int .u8 k2, .int .u8 op2, .int .i64 pl2, .int .i64 nn2, .string nm2, .string ar2, .string ex2, .slice l2 c2 d2] 31)) W) => Term.refSame_walk (wt t) t x _ _ _ _ _ _ _ _ W (Nat.le_refl _) (hT4.below hb) ((hT2.below hal2).below hb)
    rw [sameT_symm HS.out] at hsm
    have hX : ∀ W, Below (w3.alloc (.cells #[.slice q2 m2 e2, .int .u8 k2, .int .u8 op2, .int .i64 pl2, .int .i64 nn2, .string nm2, .string ar2, .string ex2, .slice l2 c2 d2] 31)).heap.size (w3.alloc (.cells #[.slice q2 m2 e2, .int .u8 k2, .int .u8 op2, .int .i64 pl2, .int .i64 nn2, .string nm2, .string ar2, .string ex2, .slice l2 c2 d2] 31)) W → W.heap[w1.heap.size]? = (w3.alloc (.cells #[.slice q2 m2 e2, .int .u8 k2, .int .u8 op2, .int .i64 pl2, .int .i64 nn2, .string nm2, .string ar2, .string ex2, .slice l2 c2 d2] 31)).heap[w1.heap.size]? ∧ W.heap[w3.heap.size]? = (w3.alloc (.cells #[.slice q2 m2 e2, .int .u8 k2, .int .u8 op2, .int .i64 pl2, .int .i64 nn2, .string nm2, .string ar2, .string ex2, .slice l2 c2 d2] 31)).heap[w3.heap.size]? := fun W hb => ⟨hb.block _ (lt_of_block hbx4), hb.block _ (lt_of_block hbx5)⟩
    have HPW := Lib.hid hpw; have HSM := Lib.hid hsm; have HX := Lib.hid hX; have HB4 := Lib.hid hbx4; have HB5 := Lib.hid hbx5; have HC5 := Lib.hid hc5
    clear h3 hb3 hr2 hg3 hO2 hT2 hlen htex hal2 hc4 hc5 hbx4 hT4 hpw hbx5 hsm hX hcv HPT
    obtain ⟨⟨b0, b1, b2, b3, b4, b5, b6, b7, b8⟩, f0, f1, f2, f3, f4, f5, f6, f7, f8⟩ := cells9' HB5.out
    have bl := lt_of_block HB5.out
    go_wp2_with (fail)
    refine HPW.out.mono ?_
    rintro e w4 ⟨rfl, hb4⟩
    obtain ⟨y1, y2⟩ := HX.out _ hb4
    clear b0 b1 b2 b3 b4 b5 b6 b7 b8 f0 f1 f2 f3 f4 f5 f6 f7 f8 bl
    obtain ⟨⟨b0, b1, b2, b3, b4, b5, b6, b7, b8⟩, f0, f1, f2, f3, f4, f5, f6, f7, f8⟩ := cells9' (y1.trans HB4.out)
    obtain ⟨⟨r0, r1, r2, r3, r4, r5, r6, r7, r8⟩, s0, s1, s2, s3, s4, s5, s6, s7, s8⟩ := cells9' (y2.trans HB5.out)
    have bl1 := World.block_lt_of_cell? _ _ b0
    have bl2 := World.block_lt_of_cell? _ _ r0
    have hss : (S.toList == S.toList) = true := by simp
    have HB4' := Lib.hid hb4
    clear y1 y2 hb4
    go_wp2_with (fail)
    refine (HSM.out _ HB4'.out).mono ?_
    rintro e w5 ⟨rfl, hb5⟩
    have hb5' := HB4'.out.trans (hb5.mono HB4'.out.size)
    obtain ⟨y1, y2⟩ := HX.out _ hb5'
    clear b0 b1 b2 b3 b4 b5 b6 b7 b8 f0 f1 f2 f3 f4 f5 f6 f7 f8 bl1 r0 r1 r2 r3 r4 r5 r6 r7 r8 s0 s1 s2 s3 s4 s5 s6 s7 s8 bl2
    obtain ⟨⟨b0, b1, b2, b3, b4, b5, b6, b7, b8⟩, f0, f1, f2, f3, f4, f5, f6, f7, f8⟩ := cells9' (y1.trans HB4.out)
    obtain ⟨⟨r0, r1, r2, r3, r4, r5, r6, r7, r8⟩, s0, s1, s2, s3, s4, s5, s6, s7, s8⟩ := cells9' (y2.trans HB5.out)
    have bl1 := World.block_lt_of_cell? _ _ b0
    have bl2 := World.block_lt_of_cell? _ _ r0
    have HB5' := Lib.hid (HC5.out.trans (hb5'.mono HC5.out.size))
    clear y1 y2 hb5 hb5'
    go_wp2_with (fail)
    refine (HAW.out _ HB5'.out).mono ?_
    rintro e w6 ⟨rfl, hb6⟩
    have HB6 := Lib.hid (HB5'.out.trans (hb6.mono HB5'.out.size)); clear hb6
    go_wp2_with (fail)
    go_ret
    exact ⟨rfl, HB6.out⟩
  · have HC1 := Lib.hid (HB1.out.trans (HAL1.out.mono HB1.out.size))
    clear HR1
    have hfb : (f1 != 0) = true := by simpa using hf
    go_wp2_with (fail)
    refine (HAW.out _ HC1.out).mono ?_
    rintro e w9 ⟨rfl, hb9⟩
    have HB9 := Lib.hid (HC1.out.trans (hb9.mono HC1.out.size)); clear hb9
    go_wp2_with (fail)
    go_ret
    exact ⟨rfl, HB9.out⟩
end Show
end Go.Proofs.YtkcadkjpneoobaaGreatDoor
