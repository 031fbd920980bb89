/- The walk of layer 6's statement on what is shown and read again. -/
import Derived.Test.YtanbjakknnmfgaaGreatDoorGShowC
import Derived.Test.YtanbjakknnmfgaaGreatDoorGShowK
import Derived.Test.YtanbjakknnmfgaaGreatDoorGParseJ
import Derived.Test.YtanbjakknnmfgaaGreatDoorGTokB
import Derived.Test.YtanbjakknnmfgaaGreatDoorGTermD
import Derived.Test.YtanbjakknnmfgaaGreatDoorGTermB
import Derived.Lib.ConvBytes
namespace Go.Proofs.YtanbjakknnmfgaaGreatDoor
open Go.RowKit
set_option linter.unusedVariables false
set_option linter.unusedSimpArgs false
namespace Show
open Term (Tm Hd TmIs Kids tget wt wts okT okK mayT greatB sameT)
open Token (jb lex BytesIn)
open Words (ints)
open Parse (termRes parseTerm_any)

theorem conv_bytes' (W : World) (s : ByteArray) (hs : s.size ≤ maxLen) (N : Nat) (hN : N = W.heap.size) : BytesIn (Lib.bytesWorld W 5 s) (some ⟨N, 0, none⟩) s.size (grownCap W s.size 0 5) (ints s.data.toList) := by
  subst hN
  exact ⟨Words.ints_size s, grownCap_ge W s.size 0 _, grownCap_le_maxLen W s.size 0 _ hs, Words.bytesAt_new W _ s, Words.ints_bytes _⟩
theorem lex_good {xs : List Int} {x : Tm} (h : termRes xs = .good x) : ∃ ts, lex xs 0 = .inr ts ∧ ts.length ≤ 4000 := by
  unfold termRes at h
  split at h
  · cases h
  · cases hl : lex xs 0 with
    | inl j => rw [hl] at h; cases h
    | inr ts =>
      rw [hl] at h
      have h' : Parse.toksRes ts xs.length = .good x := h
      unfold Parse.toksRes at h'
      split at h'
      · cases h'
      · rename_i hn
        exact ⟨ts, rfl, by omega⟩
set_option maxRecDepth 100000 in
set_option maxHeartbeats 3200000 in
theorem fits_walk (s : ByteArray) (w : World) (hs : s.size ≤ 65536) (ts : List Token.Tok) (hl : lex (ints s.data.toList) 0 = .inr ts) (hn : ts.length ≤ 4000) :
    Calls Tryz.prog 25 #[.string s] w fun e w' => e = .returned (.bool true) ∧ Below w.heap.size w w' := by
  have hcv := fun W : World => Lib.run_convert_string_bytes (P := Tryz.prog) W 9 22 5 s (u := .string) Tryz.underlying9 Tryz.underlying22 Tryz.underlying5
  have hbw : Below w.heap.size w (Lib.bytesWorld w 5 s) := Go.Joins.below_bytesWorld _ _ _ _ (Nat.le_refl _)
  have hlr := Token.refLex_walk (some ⟨w.heap.size, 0, none⟩) s.size (grownCap w s.size 0 5) (ints s.data.toList) (Lib.bytesWorld w 5 s) (conv_bytes' w s (by unfold maxLen; omega) _ rfl)
  have hsz : (ints s.data.toList).length = s.size := by rw [Words.ints_length]; rfl
  have HBW := Lib.hid hbw; have HLR := Lib.hid hlr; have HL := Lib.hid hl; have HN := Lib.hid hn; have HS := Lib.hid hs; have HSZ := Lib.hid hsz
  clear hbw hlr hl hn hs hsz
  go_enter Tryz.func25, Tryz.ntmps25
  go_wp2_with (fail)
  refine HLR.out.mono ?_
  rintro e w2 ⟨hb2, (⟨h1, _⟩ | ⟨_, q1, c1, k1, hk, rfl⟩ | ⟨_, ts', g, c1, hk, rfl, ht, hcn, hcm⟩)⟩
  · exfalso; have := HS.out; have := HSZ.out; omega
  · rw [HL.out] at hk; cases hk
  rw [HL.out] at hk
  obtain rfl : ts = ts' := by injection hk
  have hti : (ts.length : Int) + 1 ≤ 4001 := by have := HN.out; omega
  have hb' := Term.below_then HBW.out hb2 HBW.out.size
  have HB := Lib.hid hb'
  clear hb2 hb' hk ht hcv hcn hcm
  go_wp2_with (fail)
  go_ret
  refine ⟨?_, HB.out⟩
  first
    | rfl
    | exact Term.ret_bool (decide_eq_true hti)
set_option maxRecDepth 10000 in
set_option maxHeartbeats 12800000 in
theorem showBack_walk (h : Hd) (p : Option Addr) (l c : Nat) (t : Tm) (w : World) (hT : TmIs w h p l c t) (hl : Words.Laid2 w) :
    Calls Tryz.prog 8 #[.agg #[.int .u8 h.k, .int .u8 h.op, .int .i64 h.pl, .int .i64 h.n, .string h.name, .string h.arg, .string h.exn, .slice p l c]] w fun e w' => e = .returned (.bool true) ∧ Below w.heap.size w w' := by
  have hbox : ∀ O : Obj, Below w.heap.size w (w.alloc O) := fun O => (Below.refl _ _).alloc (Nat.le_refl _) O
  have hgr := fun W (hb : Below w.heap.size w W) => Term.great_walk t h p l c W (hT.below hb)
  have hsh := fun W (hb : Below w.heap.size w W) => showTerm_walk h p l c t W (hT.below hb) (hl.below hb)
  have haw := fun W (hb : Below w.heap.size w W) => awake_walk W (hl.below hb)
  have hmy := fun W (hb : Below w.heap.size w W) (hw : wt t ≤ 4000) => Term.refMay_walk t h p l c W (hT.below hb) hw
  obtain ⟨k, op, pl, nn, nm, ar, ex⟩ := h
  have hX : ∀ W, Below (w.alloc (.cells #[.int .u8 k, .int .u8 op, .int .i64 pl, .int .i64 nn, .string nm, .string ar, .string ex, .slice p l c] 29)).heap.size (w.alloc (.cells #[.int .u8 k, .int .u8 op, .int .i64 pl, .int .i64 nn, .string nm, .string ar, .string ex, .slice p l c] 29)) W → W.heap[w.heap.size]? = some (.cells #[.int .u8 k, .int .u8 op, .int .i64 pl, .int .i64 nn, .string nm, .string ar, .string ex, .slice p l c] 29 (0, 0)) :=
    fun W hb => (hb.block _ (by simp)).trans (heap_alloc_new w _)
  have HGR := Lib.hid hgr; have HSH := Lib.hid hsh; have HAW := Lib.hid haw; have HMY := Lib.hid hmy; have HX := Lib.hid hX; have HBOX := Lib.hid hbox; have HT := Lib.hid hT; have HL := Lib.hid hl
  clear hgr hsh haw hmy hX hbox hT hl
  go_enter Tryz.func8, Tryz.ntmps8
  go_wp2_with (fail)
  refine (HGR.out _ (HBOX.out _)).mono ?_
  rintro e w1 ⟨rfl, hb1⟩
  have HC1 := Lib.hid hb1
  have HB1 := Lib.hid ((HBOX.out _).trans (hb1.mono (by simp : w.heap.size ≤ _)))
  obtain ⟨⟨b0, b1, b2, b3, b4, b5, b6, b7⟩, f0, f1, f2, f3, f4, f5, f6, f7⟩ := Parse.cells8' (HX.out _ hb1)
  have bl1 := World.block_lt_of_cell? w1 _ b0
  clear hb1
  cases hg : greatB t
  rotate_left
  · clear hg
    go_wp2_with (fail)
    refine (HAW.out _ HB1.out).mono ?_
    rintro e w2 ⟨rfl, hb2⟩
    have HB2 := Lib.hid (Term.below_then HB1.out hb2 HB1.out.size)
    clear hb2 b0 b1 b2 b3 b4 b5 b6 b7 f0 f1 f2 f3 f4 f5 f6 f7 bl1
    go_wp2_with (fail)
    go_ret
    exact ⟨rfl, HB2.out⟩
  have hwt := (Term.small_of hg).1
  have HWT := Lib.hid hwt
  clear hg hwt
  go_wp2_with (fail)
  refine (HMY.out _ HB1.out (by have := HWT.out; omega)).mono ?_
  rintro e w2 ⟨rfl, hb2⟩
  have HC2 := Lib.hid (Term.below_then HC1.out hb2 HC1.out.size)
  have HB2 := Lib.hid (Term.below_then HB1.out hb2 HB1.out.size)
  clear hb2 b0 b1 b2 b3 b4 b5 b6 b7 f0 f1 f2 f3 f4 f5 f6 f7 bl1
  obtain ⟨⟨b0, b1, b2, b3, b4, b5, b6, b7⟩, f0, f1, f2, f3, f4, f5, f6, f7⟩ := Parse.cells8' (HX.out _ HC2.out)
  have bl1 := World.block_lt_of_cell? w2 _ b0
  cases hm : mayT t
  · clear hm
    go_wp2_with (fail)
    refine (HAW.out _ HB2.out).mono ?_
    rintro e w3 ⟨rfl, hb3⟩
    have HB3 := Lib.hid (Term.below_then HB2.out hb3 HB2.out.size)
    clear hb3 b0 b1 b2 b3 b4 b5 b6 b7 f0 f1 f2 f3 f4 f5 f6 f7 bl1
    go_wp2_with (fail)
    go_ret
    exact ⟨rfl, HB3.out⟩
  have hok : okT t = true := by unfold mayT at hm; rw [Bool.and_eq_true] at hm; exact hm.2
  obtain ⟨s1, s2⟩ := @show_yes [] t (by unfold mayP allExn; rw [hm]; rfl)
  have s1' : showS [] t = jb (wordsT t) := s1
  obtain ⟨x, hres, hsame⟩ := show_back hok HWT.out
  have hres' : termRes (ints (jb (wordsT t)).data.toList) = .good x := hres
  obtain ⟨ts, hlx, hts⟩ := lex_good hres'
  have hsz := text_small hok (by have := HWT.out; omega)
  have hsz2 : (jb (wordsT t)).size ≤ 65536 := by
    have h1 := jb_size (wordsT t) (words_short _ t (Nat.le_refl _) hok)
    have h2 := words_le hok
    have := HWT.out
    omega
  have HRES := Lib.hid hres'; have HSAME := Lib.hid hsame; have HSZ := Lib.hid hsz2
  have hfit := fun W => fits_walk (jb (wordsT t)) W hsz2 ts hlx hts
  have HFIT := Lib.hid hfit
  have HS1 := Lib.hid s1'; have HS2 := Lib.hid s2
  clear hm hok s1 s1' s2 hres hres' hsame hlx hts hsz hsz2 hfit
  go_wp2_with (fail)
  refine (HSH.out _ HB2.out).mono ?_
  rintro e w3 ⟨he, hb3⟩
  rw [HS1.out, HS2.out] at he
  obtain rfl := he
  have HC3 := Lib.hid (Term.below_then HC2.out hb3 HC2.out.size)
  have HB3 := Lib.hid (Term.below_then HB2.out hb3 HB2.out.size)
  clear hb3 b0 b1 b2 b3 b4 b5 b6 b7 f0 f1 f2 f3 f4 f5 f6 f7 bl1 HS1
  generalize jb (wordsT t) = S at *
  go_wp2_with (fail)
  refine (HFIT.out _).mono ?_
  rintro e w4 ⟨rfl, hb4⟩
  have hbz : Below w4.heap.size w4 (Lib.bytesWorld w4 5 S) := Go.Joins.below_bytesWorld _ _ _ _ (Nat.le_refl _)
  have HC4 := Lib.hid (Term.below_then HC3.out hb4 HC3.out.size)
  have HB4 := Lib.hid (Term.below_then HB3.out hb4 HB3.out.size)
  have HC5 := Lib.hid (Term.below_then HC4.out hbz HC4.out.size)
  have HB5 := Lib.hid (Term.below_then HB4.out hbz HB4.out.size)
  have hpt := fun N hN => parseTerm_any (some ⟨N, 0, none⟩) _ _ _ _ (conv_bytes' w4 S (by have := HSZ.out; unfold maxLen; omega) N hN) (HL.out.below HB5.out) (by rw [Words.ints_length]; exact HSZ.out)
  have HPT := Lib.hid hpt
  have hcv := fun W : World => Lib.run_convert_string_bytes (P := Tryz.prog) W 9 22 5 S (u := .string) Tryz.underlying9 Tryz.underlying22 Tryz.underlying5
  clear hb4 hbz hpt
  go_wp2_with (fail)
  refine (HPT.out _ rfl).mono ?_
  rintro e w6 ⟨hb6, (⟨a, kk, hr, rfl⟩ | ⟨x', h', q, l', c', hr, rfl, hTx⟩)⟩
  · rw [HRES.out] at hr; cases hr
  rw [HRES.out] at hr
  obtain rfl : x = x' := by injection hr
  have hTx' := hTx.reads' (Term.veil_reads _ _)
  obtain ⟨k', op', pl', nn', nm', ar', ex'⟩ := h'
  have HC6 := Lib.hid (Term.below_then HC5.out hb6 HC5.out.size)
  have HB6 := Lib.hid (Term.below_then HB5.out hb6 HB5.out.size)
  have hbx : ∀ O : Obj, Below w6.heap.size w6 (w6.alloc O) := fun O => (Below.refl _ _).alloc (Nat.le_refl _) O
  obtain ⟨⟨b0, b1, b2, b3, b4, b5, b6, b7⟩, f0, f1, f2, f3, f4, f5, f6, f7⟩ := Parse.cells8' (HX.out _ HC6.out)
  have bl1 := World.block_lt_of_cell? w6 _ b0
  have hsm := fun O : Obj => Term.refSame_walk (wt x) x t _ ⟨k, op, pl, nn, nm, ar, ex⟩ q p l' c' l c (w6.alloc O) (Nat.le_refl _) (hTx'.below (hbx O)) (HT.out.below (HB6.out.alloc HB6.out.size O))
  rw [HSAME.out] at hsm
  have HSM := Lib.hid hsm
  clear hb6 hr hTx hTx' hbx hsm hcv
  go_wp2_with (fail)
  refine (HSM.out _).mono ?_
  rintro e w7 ⟨rfl, hb7⟩
  have HB7 := Lib.hid (Term.below_then (HB6.out.alloc HB6.out.size _) hb7 (by have := HB6.out.size; simp; omega))
  clear hb7 b0 b1 b2 b3 b4 b5 b6 b7 f0 f1 f2 f3 f4 f5 f6 f7 bl1
  go_wp2_with (fail)
  refine (HAW.out _ HB7.out).mono ?_
  rintro e w8 ⟨rfl, hb8⟩
  have HB8 := Lib.hid (Term.below_then HB7.out hb8 HB7.out.size)
  clear hb8
  go_wp2_with (fail)
  go_ret
  exact ⟨rfl, HB8.out⟩
end Show
end Go.Proofs.YtanbjakknnmfgaaGreatDoor
