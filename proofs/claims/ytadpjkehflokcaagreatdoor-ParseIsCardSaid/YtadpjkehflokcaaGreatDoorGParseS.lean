/-The document's parser: unary: raise. (Written by wip/tools/unary2.py.) The document's parser: unary: one leaf. (Written by wip/tools/unary3.py.) The document's parser: unary: one leaf. (Written by wip/tools/unary3.py.) -/
import Derived.Test.YtadpjkehflokcaaGreatDoorGParseU
import Derived.Deep.LoopGhost
namespace Go.Proofs.YtadpjkehflokcaaGreatDoor
open Go.RowKit
set_option linter.unusedVariables false
set_option linter.unusedSimpArgs false
namespace Parse
open Token (Tok tel ToksAt)
open Term (Tm Hd TmIs Flat tcells veil Reads HdOk Kids)
open Words (str_no str_yes)
theorem tlRaise : wRaise.toList = [114, 97, 105, 115, 101] := by decide +kernel
theorem tlComma : wComma.toList = [44] := by decide +kernel

set_option maxRecDepth 100000 in
set_option maxHeartbeats 51200000 in
theorem dun_raise (g n c : Nat) (ts : List Tok) (m : Nat) (hU : ∀ k, k ≤ m → DPart 117 (unaryF ts k) g n c ts) (hE : ∀ k, k ≤ m → DPart 24 (exprF ts k) g n c ts) (w : World) (i : Nat) (R : St × Tm) (hR : RowAt w g n c ts) (hs : i < n) (hx : ¬ preN (textOf ts i) < 4) (hw : textOf ts i = wRaise) (hF : unaryF ts (m + 1) ⟨i, false⟩ = some R) :
    Calls Tryz.prog 117 #[.agg #[.slice (some ⟨g, 0, none⟩) n c, .int .i64 (i : Int), .bool false]] w (DEnd g n c R w) := by
  have hF' : (unaryF ts m (getF ts ⟨i + 1, false⟩ 3)).map (fun r => (r.1, Tm.node ⟨15, 0, plA ts i, 0, ⟨#[]⟩, ⟨#[]⟩, getS ts ⟨i + 1, false⟩ 3⟩ [r.2])) = some R := by
    have e : unaryF ts (m + 1) ⟨i, false⟩ = (unaryF ts m (getF ts ⟨i + 1, false⟩ 3)).map (fun r => (r.1, Tm.node ⟨15, 0, plA ts i, 0, ⟨#[]⟩, ⟨#[]⟩, getS ts ⟨i + 1, false⟩ 3⟩ [r.2])) := by
      rw [unaryF]
      simp only [Bool.false_eq_true, if_false]
      rw [if_neg hx, if_pos hw]
    rw [← e]; exact hF
  obtain ⟨r, hr, rfl⟩ := Option.map_eq_some_iff.1 hF'
  have hnx : i + 1 < n := row_text hR hs (by rw [hw]; decide +kernel)
  obtain ⟨i5, hi5⟩ : ∃ i5 : Nat, i5 = i + 1 := ⟨_, rfl⟩
  have he5 : (i : Int) + 1 = (i5 : Int) := by omega
  have HE5 := Lib.hid he5
  rw [← hi5] at hnx hr ⊢
  obtain ⟨s1, hs1⟩ : ∃ s1, s1 = getF ts ⟨i5, false⟩ 3 := ⟨_, rfl⟩
  obtain ⟨nm, hnm⟩ : ∃ nm, nm = getS ts ⟨i5, false⟩ 3 := ⟨_, rfl⟩
  have hnl : nm.size ≤ 70000 := by
    rw [hnm]; unfold getS
    split
    · show (0 : Nat) ≤ _; omega
    · exact hR.texts _ hnx
  have hl1 : s1.i < n := by
    rw [hs1]
    have := get_lt ts hR.row (s := ⟨i5, false⟩) (k := 3) (by decide) (by rw [hR.len]; exact hnx)
    rw [hR.len] at this; exact this
  have hget : ∀ W, RowAt W g n c ts → Calls Tryz.prog 22 #[.agg #[.slice (some ⟨g, 0, none⟩) n c, .int .i64 (i5 : Int), .bool false], .int .u8 3] W (GetEnd g n c s1 nm W) := fun W h => by rw [hs1, hnm]; exact get_walk W g n c ts i5 false 3 h hnx
  rw [← hs1] at hr
  rw [← hnm]
  have hrl : r.1.i < n := by
    have := (lt_all ts hR.row m).2.2.2.2.2.2 s1 r (by rw [hR.len]; exact hl1) hr
    rw [hR.len] at this; exact this
  have HNX := Lib.hid hnx; have HR0 := Lib.hid hr; have HRL := Lib.hid hrl; have HL1 := Lib.hid hl1; have HGET := Lib.hid hget; have HNL := Lib.hid hnl
  have hpa : plA ts i = ((tel ts i).a : Int) := rfl
  have HW := Lib.hid hw
  clear hnx hr hrl hi5 he5 hF' hs1 hnm hl1 hget hnl hw
  have hps := ps_new w g n c ⟨i, false⟩ hs
  obtain ⟨t0, t1, t2⟩ := hR.toks i (by rw [hR.len]; exact hs)
  have hgl := World.block_lt_of_cell? w _ t0
  simp only at hgl
  have hi1 : (i : Int) < (n : Int) := by omega
  have hi0 : (0 : Int) ≤ (i : Int) := by omega
  have hi2 : (i : Int) ≤ 70000 := by have := hR.small; omega
  have hpl : -9223372036854775808 ≤ ((tel ts i).a : Int) ∧ ((tel ts i).a : Int) ≤ 9223372036854775807 := by have := hR.places i hs; omega
  obtain ⟨s0, s1, s2⟩ := (hR.below hps.below).toks i (by rw [hR.len]; exact hs)
  clear t0 t1 t2
  have hrow := fun W (hb : Below w.heap.size w W) => hR.below hb
  have htk : ∀ O, ((((w.alloc (.cells #[.slice (some ⟨g, 0, none⟩) n c, .int .i64 (i : Int), .bool false] 56)).alloc (.cells #[.slice none 0 0, .int .i64 0, .bool false] 56)).alloc (.cells #[.int .u8 0, .int .u8 0, .int .i64 0, .int .i64 0, .string ⟨#[]⟩, .string ⟨#[]⟩, .string ⟨#[]⟩, .slice none 0 0] 29)).alloc O).heap[w.heap.size + 1 + 1 + 1]? = some O := fun O => by
    have := heap_alloc_new (((w.alloc (.cells #[.slice (some ⟨g, 0, none⟩) n c, .int .i64 (i : Int), .bool false] 56)).alloc (.cells #[.slice none 0 0, .int .i64 0, .bool false] 56)).alloc (.cells #[.int .u8 0, .int .u8 0, .int .i64 0, .int .i64 0, .string ⟨#[]⟩, .string ⟨#[]⟩, .string ⟨#[]⟩, .slice none 0 0] 29)) O
    rwa [show (((w.alloc (.cells #[.slice (some ⟨g, 0, none⟩) n c, .int .i64 (i : Int), .bool false] 56)).alloc (.cells #[.slice none 0 0, .int .i64 0, .bool false] 56)).alloc (.cells #[.int .u8 0, .int .u8 0, .int .i64 0, .int .i64 0, .string ⟨#[]⟩, .string ⟨#[]⟩, .string ⟨#[]⟩, .slice none 0 0] 29)).heap.size = w.heap.size + 1 + 1 + 1 from by simp] at this
  have htx := text_walk ((((w.alloc (.cells #[.slice (some ⟨g, 0, none⟩) n c, .int .i64 (i : Int), .bool false] 56)).alloc (.cells #[.slice none 0 0, .int .i64 0, .bool false] 56)).alloc (.cells #[.int .u8 0, .int .u8 0, .int .i64 0, .int .i64 0, .string ⟨#[]⟩, .string ⟨#[]⟩, .string ⟨#[]⟩, .slice none 0 0] 29)).alloc (.cells #[.int .u8 (tel ts i).k, .string (tel ts i).s, .int .i64 ((tel ts i).a : Int)] 46)) g n c ts i false (hR.below (hps.call (al_new _)).below) hs
  have HPS := Lib.hid (hps.call (al_new (.cells #[.int .u8 (tel ts i).k, .string (tel ts i).s, .int .i64 ((tel ts i).a : Int)] 46))); have HTK := Lib.hid (htk (.cells #[.int .u8 (tel ts i).k, .string (tel ts i).s, .int .i64 ((tel ts i).a : Int)] 46)); have HTX := Lib.hid htx; have HROW := Lib.hid hrow; have HU := Lib.hid hU; have HE := Lib.hid hE; have HR := Lib.hid hR; have HPL := Lib.hid hpl
  clear hps htk htx hrow hU hE hR hF hpl
  go_enter Tryz.func117, Tryz.ntmps117
  go_wp2_with (fail)
  refine HTX.out.mono ?_
  rintro e w2 ⟨rfl, hb2⟩
  have HPS2 := Lib.hid ((HPS.out.call hb2).call (al_new (.cells #[.string ⟨#[102, 115, 116]⟩, .string ⟨#[115, 110, 100]⟩, .string ⟨#[114, 101, 102]⟩, .string ⟨#[33]⟩] 9)))
  have HTK2 := Lib.hid (bx_call (bx_call HTK.out hb2) (al_new (.cells #[.string ⟨#[102, 115, 116]⟩, .string ⟨#[115, 110, 100]⟩, .string ⟨#[114, 101, 102]⟩, .string ⟨#[33]⟩] 9)))
  have hks : ∀ j, j < 4 → (w2.alloc (.cells #[.string ⟨#[102, 115, 116]⟩, .string ⟨#[115, 110, 100]⟩, .string ⟨#[114, 101, 102]⟩, .string ⟨#[33]⟩] 9)).cell? ⟨w2.heap.size, j, none⟩ = some (.string (Words.sel [wFst, wSnd, wRef, wGet] j)) := fun j hj => by
    have h1 := heap_alloc_new w2 (.cells #[.string ⟨#[102, 115, 116]⟩, .string ⟨#[115, 110, 100]⟩, .string ⟨#[114, 101, 102]⟩, .string ⟨#[33]⟩] 9)
    have : j = 0 ∨ j = 1 ∨ j = 2 ∨ j = 3 := by omega
    rcases this with rfl | rfl | rfl | rfl <;> (unfold World.cell?; rw [h1]; rfl)
  have HKS := Lib.hid hks
  clear hb2 HPS HTK HTX hks s0 s1 s2 hgl
  generalize hxx : textOf ts i = x at *
  have HX := Lib.hid hxx
  clear hxx
  go_wp2_with (fail)
  generalize w2.alloc (.cells #[.string ⟨#[102, 115, 116]⟩, .string ⟨#[115, 110, 100]⟩, .string ⟨#[114, 101, 102]⟩, .string ⟨#[33]⟩] 9) = w5 at *
  generalize w2.heap.size = KB at *
  go_loopw [7, 33] (fun _ i' wr => ∃ j : Nat, j ≤ 4 ∧ i' = .int .i64 j ∧ (∀ k, k < j → Words.sel [wFst, wSnd, wRef, wGet] k ≠ x) ∧ wr = w5) (fun _ i' _ => 4 - (intOf i').toNat)
  case atStart => exact ⟨0, Nat.zero_le _, rfl, fun k hk => by omega, rfl⟩
  case round =>
    obtain ⟨j, hj, rfl, hall, rfl⟩ := hrel
    have HALL := Lib.hid hall
    clear hall
    by_cases hlt : j < 4
    · have kc := HKS.out j hlt
      by_cases hxj : Words.sel [wFst, wSnd, wRef, wGet] j = x
      · have hpre := preN_hit x j hlt hxj
        have exj : ((Words.sel [wFst, wSnd, wRef, wGet] j).toList == x.toList) = true := str_yes hxj
        have HPRE := Lib.hid hpre
        clear hpre hxj
        generalize Words.sel [wFst, wSnd, wRef, wGet] j = kj at *
        exact absurd (by rw [HPRE.out]; exact hlt) hx
      · have exj : ((Words.sel [wFst, wSnd, wRef, wGet] j).toList == x.toList) = false := str_no hxj
        have hall2 : ∀ k, k < j + 1 → Words.sel [wFst, wSnd, wRef, wGet] k ≠ x := fun k hk => by
          rcases Nat.lt_or_ge k j with h | h
          · exact HALL.out k h
          · rw [show k = j from by omega]; exact hxj
        have HALL2 := Lib.hid hall2
        clear hall2 hxj
        generalize hkj : Words.sel [wFst, wSnd, wRef, wGet] j = kj at *
        clear hkj
        go_wp2_with (fail)
        go_roundw
        case rel => exact ⟨j + 1, by omega, by go_num, HALL2.out, trivial⟩
        case measure => simp [intOf]; omega
    · obtain rfl : j = 4 := by omega
      have hpre := preN_miss x HALL.out
      have HPRE := Lib.hid hpre
      clear hpre
      have er : (x.toList == [114, 97, 105, 115, 101]) = true := by rw [← tlRaise]; exact str_yes HW.out
      clear hx
      obtain ⟨⟨x0, x1, x2⟩, y0, y1, y2⟩ := cellsS HPS2.out.b1
      obtain ⟨⟨k0, k1, k2⟩, -⟩ := cellsS HTK2.out
      go_wp2_with ((refine wpList_stI w.heap.size 66 65 ((i : Int) + 1) _ _ _ rfl rfl HPS2.out.b1 ?_; intro w6 pi; rw [HE5.out] at pi; have HPS6 := Lib.hid (HPS2.out.state (s' := ⟨i5, false⟩) pi HNX.out); have HTK6 := Lib.hid (bx_put HTK2.out pi (by omega)); clear pi x0 x1 x2 y0 y1 y2 k0 k1 k2; obtain ⟨⟨x0, x1, x2⟩, y0, y1, y2⟩ := cellsS HPS6.out.b1))
      refine (HGET.out w6 (HROW.out w6 HPS6.out.below)).mono ?_
      rintro e w7 ⟨rfl, hb7⟩
      clear x0 x1 x2 y0 y1 y2
      have HPS7 := Lib.hid ((HPS6.out.call hb7).call (al_new (.cells #[.slice (some ⟨g, 0, none⟩) n c, .int .i64 s1.i, .bool s1.bad] 56)))
      have HTK7 := Lib.hid (bx_call (bx_call HTK6.out hb7) (al_new (.cells #[.slice (some ⟨g, 0, none⟩) n c, .int .i64 s1.i, .bool s1.bad] 56)))
      have HB7 := Lib.hid (heap_alloc_new w7 (.cells #[.slice (some ⟨g, 0, none⟩) n c, .int .i64 s1.i, .bool s1.bad] 56))
      have hsz6 := lt_of_block HTK6.out
      have hsz7 : w6.heap.size ≤ w7.heap.size := hb7.size
      have hz7 : w.heap.size + 3 ≤ (w7.alloc (.cells #[.slice (some ⟨g, 0, none⟩) n c, .int .i64 s1.i, .bool s1.bad] 56)).heap.size := by rw [show (w7.alloc (.cells #[.slice (some ⟨g, 0, none⟩) n c, .int .i64 s1.i, .bool s1.bad] 56)).heap.size = w7.heap.size + 1 from by simp]; omega
      clear hb7
      go_wp2_with (fail)
      refine (HU.out m (Nat.le_refl _) _ s1 r (HROW.out _ HPS7.out.below) HL1.out HR0.out).mono ?_
      rintro e w8 ⟨h, q, l, d, rfl, hT, hb8⟩
      have hsz8 : (w7.alloc (.cells #[.slice (some ⟨g, 0, none⟩) n c, .int .i64 s1.i, .bool s1.bad] 56)).heap.size ≤ w8.heap.size := hb8.size
      rw [show (w7.alloc (.cells #[.slice (some ⟨g, 0, none⟩) n c, .int .i64 s1.i, .bool s1.bad] 56)).heap.size = w7.heap.size + 1 from by simp] at hsz8
      have HPS8 := Lib.hid ((HPS7.out.call hb8).call (al_new (.cells #[.int .u8 0, .int .u8 0, .int .i64 0, .int .i64 0, .string ⟨#[]⟩, .string ⟨#[]⟩, .string ⟨#[]⟩, .slice none 0 0] 29)))
      have HTK8 := Lib.hid (bx_call (bx_call HTK7.out hb8) (al_new (.cells #[.int .u8 0, .int .u8 0, .int .i64 0, .int .i64 0, .string ⟨#[]⟩, .string ⟨#[]⟩, .string ⟨#[]⟩, .slice none 0 0] 29)))
      have HB8 := Lib.hid (bx_call (bx_call HB7.out hb8) (al_new (.cells #[.int .u8 0, .int .u8 0, .int .i64 0, .int .i64 0, .string ⟨#[]⟩, .string ⟨#[]⟩, .string ⟨#[]⟩, .slice none 0 0] 29)))
      have HTF8 := Lib.hid ((TmFr.new hT).call (al_new (.cells #[.int .u8 0, .int .u8 0, .int .i64 0, .int .i64 0, .string ⟨#[]⟩, .string ⟨#[]⟩, .string ⟨#[]⟩, .slice none 0 0] 29)))
      have HZ8 := Lib.hid (heap_alloc_new w8 (.cells #[.int .u8 0, .int .u8 0, .int .i64 0, .int .i64 0, .string ⟨#[]⟩, .string ⟨#[]⟩, .string ⟨#[]⟩, .slice none 0 0] 29))
      clear hT hb8
      go_wp2_with (first | (refine wpList_stS w7.heap.size 10 75 (some ⟨g, 0, none⟩) n c r.1.i r.1.bad _ _ _ rfl rfl HB8.out ?_; intro w9 p9; have HPS9 := Lib.hid (HPS8.out.put p9 (by omega)); have HTK9 := Lib.hid (bx_put HTK8.out p9 (by omega)); have HTF9 := Lib.hid (HTF8.out.put p9 (.inl (by simp))); have HB9 := Lib.hid p9.here; have HZ9 := Lib.hid (bx_put HZ8.out p9 (by omega)); clear p9) | (refine wpList_stT w8.heap.size 12 76 h.k h.op h.pl h.n h.name h.arg h.exn q l d _ _ _ _ _ _ _ _ rfl rfl HZ9.out ?_; intro w10 p10; have HPS10 := Lib.hid (HPS9.out.put p10 (by omega)); have HTK10 := Lib.hid (bx_put HTK9.out p10 (by omega)); have HTF10 := Lib.hid (HTF9.out.put p10 (.inr (by omega))); have HB10 := Lib.hid (bx_put HB9.out p10 (by omega)); have HZ10 := Lib.hid p10.here; clear p10; obtain ⟨⟨k0, k1, k2⟩, -⟩ := cellsS HTK10.out; obtain ⟨⟨z0, z1, z2, z3, z4, z5, z6, z7⟩, -⟩ := cells8' HZ10.out))
      have HPS10b := Lib.hid (HPS10.out.call (al_new (.cells #[.int .u8 h.k, .int .u8 h.op, .int .i64 h.pl, .int .i64 h.n, .string h.name, .string h.arg, .string h.exn, .slice q l d] 29)))
      have HTF10b := Lib.hid (HTF10.out.call (al_new (.cells #[.int .u8 h.k, .int .u8 h.op, .int .i64 h.pl, .int .i64 h.n, .string h.name, .string h.arg, .string h.exn, .slice q l d] 29)))
      have HB10b := Lib.hid (bx_call HB10.out (al_new (.cells #[.int .u8 h.k, .int .u8 h.op, .int .i64 h.pl, .int .i64 h.n, .string h.name, .string h.arg, .string h.exn, .slice q l d] 29)))
      have HX10 := Lib.hid (heap_alloc_new w10 (.cells #[.int .u8 h.k, .int .u8 h.op, .int .i64 h.pl, .int .i64 h.n, .string h.name, .string h.arg, .string h.exn, .slice q l d] 29))
      have hsz10 := lt_of_block HZ10.out
      refine (term_walk _ 15 ((tel ts i).a : Int) (some ⟨w10.heap.size, 0, none⟩) 1 1).mono ?_
      rintro e w11 ⟨rfl, hb11⟩
      have hsz11 : w10.heap.size + 1 ≤ w11.heap.size := by have := hb11.size; simpa using this
      have HPS12 := Lib.hid ((HPS10b.out.call hb11).call (al_new (.cells #[.int .u8 15, .int .u8 0, .int .i64 ((tel ts i).a : Int), .int .i64 0, .string ⟨#[]⟩, .string ⟨#[]⟩, .string nm, .slice (some ⟨w10.heap.size, 0, none⟩) 1 1] 29)))
      have HTF12 := Lib.hid ((HTF10b.out.call hb11).call (al_new (.cells #[.int .u8 15, .int .u8 0, .int .i64 ((tel ts i).a : Int), .int .i64 0, .string ⟨#[]⟩, .string ⟨#[]⟩, .string nm, .slice (some ⟨w10.heap.size, 0, none⟩) 1 1] 29)))
      have HB12 := Lib.hid (bx_call (bx_call HB10b.out hb11) (al_new (.cells #[.int .u8 15, .int .u8 0, .int .i64 ((tel ts i).a : Int), .int .i64 0, .string ⟨#[]⟩, .string ⟨#[]⟩, .string nm, .slice (some ⟨w10.heap.size, 0, none⟩) 1 1] 29)))
      have HX12 := Lib.hid (bx_call (bx_call HX10.out hb11) (al_new (.cells #[.int .u8 15, .int .u8 0, .int .i64 ((tel ts i).a : Int), .int .i64 0, .string ⟨#[]⟩, .string ⟨#[]⟩, .string nm, .slice (some ⟨w10.heap.size, 0, none⟩) 1 1] 29)))
      have HC12 := Lib.hid (heap_alloc_new w11 (.cells #[.int .u8 15, .int .u8 0, .int .i64 ((tel ts i).a : Int), .int .i64 0, .string ⟨#[]⟩, .string ⟨#[]⟩, .string nm, .slice (some ⟨w10.heap.size, 0, none⟩) 1 1] 29))
      clear hb11 k0 k1 k2 z0 z1 z2 z3 z4 z5 z6 z7
      go_wp2_with (fail)
      generalize w11.alloc (.cells #[.int .u8 15, .int .u8 0, .int .i64 ((tel ts i).a : Int), .int .i64 0, .string ⟨#[]⟩, .string ⟨#[]⟩, .string nm, .slice (some ⟨w10.heap.size, 0, none⟩) 1 1] 29) = w12 at *
      have hini := EndV.of_ps HPS12.out
      refine wp_region_held_drew (S := fun V => EndV w w12 V) (by kernel_rfl) hini (fun hHeld => ?_)
      have HE0 := Lib.hid hini
      clear hini
      generalize w12.drew = v0 at *
      refine wpAnyH_take (i := 0) (v := .agg #[.slice (some ⟨g, 0, none⟩) n c, .int .i64 r.1.i, .bool r.1.bad]) rfl (by kernel_rfl) (by kernel_rfl) (by kernel_rfl) (fun _ _ _ h => h) (Or.inl ⟨by rfl, ?_⟩) (by assumption) ?_
      · intro w' hSw
        obtain ⟨⟨g0, g1, g2⟩, d0, d1, d2⟩ := cellsS ((hSw.off _ (lt_of_block HB12.out) (by omega) (by omega)).trans HB12.out)
        first | (go_simp; done) | rfl | (go_simp; first | exact IntWalk.i64_in _ (by omega) | exact IntWalk.u8_in _ (by omega))
      try simp only [Act.put, List.getElem_toArray, List.getElem_cons_succ, List.getElem_cons_zero, List.setIfInBounds_toArray, List.set_cons_zero, List.set_cons_succ]
      refine wpAnyH_take (i := 1) (v := .agg #[.int .u8 15, .int .u8 0, .int .i64 ((tel ts i).a : Int), .int .i64 0, .string ⟨#[]⟩, .string ⟨#[]⟩, .string nm, .slice (some ⟨w10.heap.size, 0, none⟩) 1 1]) rfl (by kernel_rfl) (by kernel_rfl) (by kernel_rfl) (fun _ _ _ h => h) (Or.inl ⟨by rfl, ?_⟩) (by assumption) ?_
      · intro w' hSw
        obtain ⟨⟨g0, g1, g2, g3, g4, g5, g6, g7⟩, d0, d1, d2, d3, d4, d5, d6, d7⟩ := cells8' ((hSw.off _ (lt_of_block HC12.out) (by omega) (by omega)).trans HC12.out)
        first | (go_simp; done) | rfl | (go_simp; first | exact IntWalk.i64_in _ (by omega) | exact IntWalk.u8_in _ (by omega))
      try simp only [Act.put, List.getElem_toArray, List.getElem_cons_succ, List.getElem_cons_zero, List.setIfInBounds_toArray, List.set_cons_zero, List.set_cons_succ]
      refine wpAnyH_ready (rs := [2]) (by kernel_rfl) (by simp) ?_
      refine AllReadyH.cons rfl (fun K hK => ?_) AllReadyH.nil
      have HK2 := Lib.hid hK
      clear hK
      try rw [if_pos (by rfl)]
      obtain ⟨x1, x2, x3, hx2⟩ := HE0.out.s2
      refine wp_stS _ _ _ _ _ _ _ (w.heap.size + 1) _ _ (some ⟨g, 0, none⟩) n c r.1.i r.1.bad x1 x2 x3 rfl rfl hx2 (fun va pa => ?_)
      clear hx2
      have HEa := Lib.hid (HE0.out.two pa)
      have PA := Lib.hid pa
      clear pa
      refine HK2.out _ _ HEa.out (fun hHeld => ?_)
      clear HK2
      try simp only [Act.put, List.getElem_toArray, List.getElem_cons_succ, List.getElem_cons_zero, List.setIfInBounds_toArray, List.set_cons_zero, List.set_cons_succ]
      clear K
      refine wpAnyH_ready (rs := [3]) (by kernel_rfl) (by simp) ?_
      refine AllReadyH.cons rfl (fun K hK => ?_) AllReadyH.nil
      have HK2 := Lib.hid hK
      clear hK
      try rw [if_pos (by rfl)]
      obtain ⟨y1, y2, y3, y4, y5, y6, y7, y8, hy3⟩ := HEa.out.s3
      refine wp_stT _ _ _ _ _ _ _ (w.heap.size + 1 + 1) _ _ 15 0 ((tel ts i).a : Int) 0 ⟨#[]⟩ ⟨#[]⟩ nm (some ⟨w10.heap.size, 0, none⟩) 1 1 y1 y2 y3 y4 y5 y6 y7 y8 rfl rfl hy3 (fun vb pb => ?_)
      clear hy3
      have HEb := Lib.hid (HEa.out.three pb)
      have PB := Lib.hid pb
      clear pb
      refine HK2.out _ _ HEb.out (fun hHeld => ?_)
      clear HK2
      try simp only [Act.put, List.getElem_toArray, List.getElem_cons_succ, List.getElem_cons_zero, List.setIfInBounds_toArray, List.set_cons_zero, List.set_cons_succ]
      clear K
      refine wpAnyH_done (by kernel_rfl) ?_ _
      clear hHeld
      have htm := (show TmIs _ _ _ _ _ (Tm.node ⟨15, 0, plA ts i, 0, ⟨#[]⟩, ⟨#[]⟩, nm⟩ [r.2]) from node1 (HTF12.out.fin hz7 HEb.out) (by omega) ((HEb.out.off _ (lt_of_block HX12.out) (by omega) (by omega)).trans HX12.out) (dhd_any (by omega) HPL.out (by omega) e_small e_small HNL.out))
      have hr2 := (PB.out.off (w.heap.size + 1) (by omega)).trans PA.out.here
      have hr3 := PB.out.here
      obtain ⟨⟨r0, r1, r2⟩, d0, d1, d2⟩ := cellsS hr2
      obtain ⟨⟨g0, g1, g2, g3, g4, g5, g6, g7⟩, e0, e1, e2, e3, e4, e5, e6, e7⟩ := cells8' hr3
      have rl2 := lt_of_block hr2
      have rl3 := lt_of_block hr3
      have HTM := Lib.hid htm
      clear htm hr2 hr3
      go_wp2_with (fail)
      refine bodyPost_ret (v := .tuple #[.agg #[.slice (some ⟨g, 0, none⟩) n c, .int .i64 r.1.i, .bool r.1.bad], .agg #[.int .u8 15, .int .u8 0, .int .i64 ((tel ts i).a : Int), .int .i64 0, .string ⟨#[]⟩, .string ⟨#[]⟩, .string nm, .slice (some ⟨w10.heap.size, 0, none⟩) 1 1]]) (by simp [results, Tryz.results117, go_sem, r0, r1, r2, g0, g1, g2, g3, g4, g5, g6, g7, rl2, rl3]) rfl ⟨⟨15, 0, ((tel ts i).a : Int), 0, ⟨#[]⟩, ⟨#[]⟩, nm⟩, some ⟨w10.heap.size, 0, none⟩, 1, 1, rfl, HTM.out, HEb.out.below⟩
end Parse
end Go.Proofs.YtadpjkehflokcaaGreatDoor
namespace Go.Proofs.YtadpjkehflokcaaGreatDoor
open Go.RowKit
set_option linter.unusedVariables false
set_option linter.unusedSimpArgs false
namespace Parse
open Token (Tok tel ToksAt)
open Term (Tm Hd TmIs Flat tcells veil Reads HdOk Kids)
open Words (str_no str_yes)

set_option maxRecDepth 100000 in
set_option maxHeartbeats 51200000 in
theorem dun_num (g n c : Nat) (ts : List Tok) (m : Nat) (hU : ∀ k, k ≤ m → DPart 117 (unaryF ts k) g n c ts) (hE : ∀ k, k ≤ m → DPart 24 (exprF ts k) g n c ts) (w : World) (i : Nat) (R : St × Tm) (hR : RowAt w g n c ts) (hs : i < n) (hx : ¬ preN (textOf ts i) < 4) (hw : textOf ts i ≠ wRaise) (hk : (tel ts i).k = 1) (hF : unaryF ts (m + 1) ⟨i, false⟩ = some R) :
    Calls Tryz.prog 117 #[.agg #[.slice (some ⟨g, 0, none⟩) n c, .int .i64 (i : Int), .bool false]] w (DEnd g n c R w) := by
  obtain rfl : ((⟨i + 1, false⟩, Tm.node ⟨1, 0, plA ts i, Words.numV (tel ts i).s.data.toList, ⟨#[]⟩, ⟨#[]⟩, ⟨#[]⟩⟩ []) : St × Tm) = R := by
    have e : unaryF ts (m + 1) ⟨i, false⟩ = some (⟨i + 1, false⟩, Tm.node ⟨1, 0, plA ts i, Words.numV (tel ts i).s.data.toList, ⟨#[]⟩, ⟨#[]⟩, ⟨#[]⟩⟩ []) := by
      rw [unaryF]
      simp only [Bool.false_eq_true, if_false]
      rw [if_neg hx, if_neg hw, if_pos hk]
    rw [e] at hF
    exact Option.some.inj hF
  have hnx : i + 1 < n := row_next hR hs (by rw [hk]; decide)
  obtain ⟨i5, hi5⟩ : ∃ i5 : Nat, i5 = i + 1 := ⟨_, rfl⟩
  have he5 : (i : Int) + 1 = (i5 : Int) := by omega
  have HE5 := Lib.hid he5
  rw [← hi5] at hnx ⊢
  have HNX := Lib.hid hnx; have HW := Lib.hid hw; have HK := Lib.hid hk; have HSZ := Lib.hid (hR.texts i hs)
  have hpa : plA ts i = ((tel ts i).a : Int) := rfl
  clear hnx hi5 he5 hw hk
  have hps := ps_new w g n c ⟨i, false⟩ hs
  obtain ⟨t0, t1, t2⟩ := hR.toks i (by rw [hR.len]; exact hs)
  have hgl := World.block_lt_of_cell? w _ t0
  simp only at hgl
  have hi1 : (i : Int) < (n : Int) := by omega
  have hi0 : (0 : Int) ≤ (i : Int) := by omega
  have hi2 : (i : Int) ≤ 70000 := by have := hR.small; omega
  have hpl : -9223372036854775808 ≤ ((tel ts i).a : Int) ∧ ((tel ts i).a : Int) ≤ 9223372036854775807 := by have := hR.places i hs; omega
  obtain ⟨s0, s1, s2⟩ := (hR.below hps.below).toks i (by rw [hR.len]; exact hs)
  clear t0 t1 t2
  have hrow := fun W (hb : Below w.heap.size w W) => hR.below hb
  have htk : ∀ O, ((((w.alloc (.cells #[.slice (some ⟨g, 0, none⟩) n c, .int .i64 (i : Int), .bool false] 56)).alloc (.cells #[.slice none 0 0, .int .i64 0, .bool false] 56)).alloc (.cells #[.int .u8 0, .int .u8 0, .int .i64 0, .int .i64 0, .string ⟨#[]⟩, .string ⟨#[]⟩, .string ⟨#[]⟩, .slice none 0 0] 29)).alloc O).heap[w.heap.size + 1 + 1 + 1]? = some O := fun O => by
    have := heap_alloc_new (((w.alloc (.cells #[.slice (some ⟨g, 0, none⟩) n c, .int .i64 (i : Int), .bool false] 56)).alloc (.cells #[.slice none 0 0, .int .i64 0, .bool false] 56)).alloc (.cells #[.int .u8 0, .int .u8 0, .int .i64 0, .int .i64 0, .string ⟨#[]⟩, .string ⟨#[]⟩, .string ⟨#[]⟩, .slice none 0 0] 29)) O
    rwa [show (((w.alloc (.cells #[.slice (some ⟨g, 0, none⟩) n c, .int .i64 (i : Int), .bool false] 56)).alloc (.cells #[.slice none 0 0, .int .i64 0, .bool false] 56)).alloc (.cells #[.int .u8 0, .int .u8 0, .int .i64 0, .int .i64 0, .string ⟨#[]⟩, .string ⟨#[]⟩, .string ⟨#[]⟩, .slice none 0 0] 29)).heap.size = w.heap.size + 1 + 1 + 1 from by simp] at this
  have htx := text_walk ((((w.alloc (.cells #[.slice (some ⟨g, 0, none⟩) n c, .int .i64 (i : Int), .bool false] 56)).alloc (.cells #[.slice none 0 0, .int .i64 0, .bool false] 56)).alloc (.cells #[.int .u8 0, .int .u8 0, .int .i64 0, .int .i64 0, .string ⟨#[]⟩, .string ⟨#[]⟩, .string ⟨#[]⟩, .slice none 0 0] 29)).alloc (.cells #[.int .u8 (tel ts i).k, .string (tel ts i).s, .int .i64 ((tel ts i).a : Int)] 46)) g n c ts i false (hR.below (hps.call (al_new _)).below) hs
  have HPS := Lib.hid (hps.call (al_new (.cells #[.int .u8 (tel ts i).k, .string (tel ts i).s, .int .i64 ((tel ts i).a : Int)] 46))); have HTK := Lib.hid (htk (.cells #[.int .u8 (tel ts i).k, .string (tel ts i).s, .int .i64 ((tel ts i).a : Int)] 46)); have HTX := Lib.hid htx; have HROW := Lib.hid hrow; have HU := Lib.hid hU; have HE := Lib.hid hE; have HR := Lib.hid hR; have HPL := Lib.hid hpl
  clear hps htk htx hrow hU hE hR hF hpl
  go_enter Tryz.func117, Tryz.ntmps117
  go_wp2_with (fail)
  refine HTX.out.mono ?_
  rintro e w2 ⟨rfl, hb2⟩
  have HPS2 := Lib.hid ((HPS.out.call hb2).call (al_new (.cells #[.string ⟨#[102, 115, 116]⟩, .string ⟨#[115, 110, 100]⟩, .string ⟨#[114, 101, 102]⟩, .string ⟨#[33]⟩] 9)))
  have HTK2 := Lib.hid (bx_call (bx_call HTK.out hb2) (al_new (.cells #[.string ⟨#[102, 115, 116]⟩, .string ⟨#[115, 110, 100]⟩, .string ⟨#[114, 101, 102]⟩, .string ⟨#[33]⟩] 9)))
  have hks : ∀ j, j < 4 → (w2.alloc (.cells #[.string ⟨#[102, 115, 116]⟩, .string ⟨#[115, 110, 100]⟩, .string ⟨#[114, 101, 102]⟩, .string ⟨#[33]⟩] 9)).cell? ⟨w2.heap.size, j, none⟩ = some (.string (Words.sel [wFst, wSnd, wRef, wGet] j)) := fun j hj => by
    have h1 := heap_alloc_new w2 (.cells #[.string ⟨#[102, 115, 116]⟩, .string ⟨#[115, 110, 100]⟩, .string ⟨#[114, 101, 102]⟩, .string ⟨#[33]⟩] 9)
    have : j = 0 ∨ j = 1 ∨ j = 2 ∨ j = 3 := by omega
    rcases this with rfl | rfl | rfl | rfl <;> (unfold World.cell?; rw [h1]; rfl)
  have HKS := Lib.hid hks
  clear hb2 HPS HTK HTX hks s0 s1 s2 hgl
  generalize hxx : textOf ts i = x at *
  have HX := Lib.hid hxx
  clear hxx
  go_wp2_with (fail)
  generalize w2.alloc (.cells #[.string ⟨#[102, 115, 116]⟩, .string ⟨#[115, 110, 100]⟩, .string ⟨#[114, 101, 102]⟩, .string ⟨#[33]⟩] 9) = w5 at *
  generalize w2.heap.size = KB at *
  go_loopw [7, 33] (fun _ i' wr => ∃ j : Nat, j ≤ 4 ∧ i' = .int .i64 j ∧ (∀ k, k < j → Words.sel [wFst, wSnd, wRef, wGet] k ≠ x) ∧ wr = w5) (fun _ i' _ => 4 - (intOf i').toNat)
  case atStart => exact ⟨0, Nat.zero_le _, rfl, fun k hk => by omega, rfl⟩
  case round =>
    obtain ⟨j, hj, rfl, hall, rfl⟩ := hrel
    have HALL := Lib.hid hall
    clear hall
    by_cases hlt : j < 4
    · have kc := HKS.out j hlt
      by_cases hxj : Words.sel [wFst, wSnd, wRef, wGet] j = x
      · have hpre := preN_hit x j hlt hxj
        have exj : ((Words.sel [wFst, wSnd, wRef, wGet] j).toList == x.toList) = true := str_yes hxj
        have HPRE := Lib.hid hpre
        clear hpre hxj
        generalize Words.sel [wFst, wSnd, wRef, wGet] j = kj at *
        exact absurd (by rw [HPRE.out]; exact hlt) hx
      · have exj : ((Words.sel [wFst, wSnd, wRef, wGet] j).toList == x.toList) = false := str_no hxj
        have hall2 : ∀ k, k < j + 1 → Words.sel [wFst, wSnd, wRef, wGet] k ≠ x := fun k hk => by
          rcases Nat.lt_or_ge k j with h | h
          · exact HALL.out k h
          · rw [show k = j from by omega]; exact hxj
        have HALL2 := Lib.hid hall2
        clear hall2 hxj
        generalize hkj : Words.sel [wFst, wSnd, wRef, wGet] j = kj at *
        clear hkj
        go_wp2_with (fail)
        go_roundw
        case rel => exact ⟨j + 1, by omega, by go_num, HALL2.out, trivial⟩
        case measure => simp [intOf]; omega
    · obtain rfl : j = 4 := by omega
      have hpre := preN_miss x HALL.out
      have HPRE := Lib.hid hpre
      clear hpre
      have er : (x.toList == [114, 97, 105, 115, 101]) = false := by rw [← tlRaise]; exact str_no HW.out
      clear hx
      have ek : ((tel ts i).k == 1) = true := by rw [HK.out]; rfl
      obtain ⟨⟨x0, x1, x2⟩, y0, y1, y2⟩ := cellsS HPS2.out.b1
      obtain ⟨⟨k0, k1, k2⟩, -⟩ := cellsS HTK2.out
      go_wp2_with ((refine wpList_stI w.heap.size 93 92 ((i : Int) + 1) _ _ _ rfl rfl HPS2.out.b1 ?_; intro w6 pi; rw [HE5.out] at pi; have HPS6 := Lib.hid (HPS2.out.state (s' := ⟨i5, false⟩) pi HNX.out); have HTK6 := Lib.hid (bx_put HTK2.out pi (by omega)); clear pi x0 x1 x2 y0 y1 y2 k0 k1 k2; obtain ⟨⟨k0, k1, k2⟩, -⟩ := cellsS HTK6.out))
      have HPS6b := Lib.hid (HPS6.out.call (al_new (.cells #[] 29)))
      have HTK6b := Lib.hid (bx_call HTK6.out (al_new (.cells #[] 29)))
      refine (term_walk _ 1 ((tel ts i).a : Int) (some ⟨w6.heap.size, 0, none⟩) 0 0).mono ?_
      rintro e w7 ⟨rfl, hb7⟩
      have hsz6 := lt_of_block HTK6.out
      have hsz7 : w6.heap.size + 1 ≤ w7.heap.size := by have := hb7.size; simpa using this
      clear k0 k1 k2
      have HPS8 := Lib.hid ((HPS6b.out.call hb7).call (al_new (.cells #[.int .u8 1, .int .u8 0, .int .i64 ((tel ts i).a : Int), .int .i64 0, .string ⟨#[]⟩, .string ⟨#[]⟩, .string ⟨#[]⟩, .slice (some ⟨w6.heap.size, 0, none⟩) 0 0] 29)))
      have HTK8 := Lib.hid (bx_call (bx_call HTK6b.out hb7) (al_new (.cells #[.int .u8 1, .int .u8 0, .int .i64 ((tel ts i).a : Int), .int .i64 0, .string ⟨#[]⟩, .string ⟨#[]⟩, .string ⟨#[]⟩, .slice (some ⟨w6.heap.size, 0, none⟩) 0 0] 29)))
      have HC8 := Lib.hid (heap_alloc_new w7 (.cells #[.int .u8 1, .int .u8 0, .int .i64 ((tel ts i).a : Int), .int .i64 0, .string ⟨#[]⟩, .string ⟨#[]⟩, .string ⟨#[]⟩, .slice (some ⟨w6.heap.size, 0, none⟩) 0 0] 29))
      obtain ⟨⟨k0, k1, k2⟩, -⟩ := cellsS (bx_call HTK6b.out hb7)
      have kk := bx_call HTK6b.out hb7
      have kl := lt_of_block kk
      clear hb7 kk
      go_wp2_with (fail)
      refine (Words.refNumber_walk (tel ts i).s _ (by have := HSZ.out; unfold maxLen; omega)).mono ?_
      rintro e w9 ⟨hne, hb9⟩
      obtain rfl : e = .returned (.tuple #[.int .i64 (Words.numV (tel ts i).s.data.toList), .bool (Words.numB (tel ts i).s.data.toList)]) := hne
      have hnvs := numV_small (tel ts i).s.data.toList
      have HNV := Lib.hid hnvs
      clear hnvs
      clear k0 k1 k2
      have hsz9 : w7.heap.size + 1 ≤ w9.heap.size := by have := hb9.size; simpa using this
      have HPS9 := Lib.hid (HPS8.out.call hb9)
      have HC9 := Lib.hid (bx_call HC8.out hb9)
      clear hb9 kl
      generalize hnv : Words.numV (tel ts i).s.data.toList = nv at *
      generalize Words.numB (tel ts i).s.data.toList = nb at *
      go_wp2_with (refine wpList_stF3 w7.heap.size 105 (.tmp 102) nv _ _ _ _ _ _ _ _ rfl rfl HC9.out ?_; intro w12 p12; have HPS12 := Lib.hid (HPS9.out.put p12 (by omega)); have HC12 := Lib.hid p12.here; clear p12)
      have hini := EndV.of_ps HPS12.out
      refine wp_region_held_drew (S := fun V => EndV w w12 V) (by kernel_rfl) hini (fun hHeld => ?_)
      have HE0 := Lib.hid hini
      clear hini
      generalize w12.drew = v0 at *
      refine wpAnyH_take (i := 0) (v := .agg #[.slice (some ⟨g, 0, none⟩) n c, .int .i64 (i5 : Int), .bool false]) rfl (by kernel_rfl) (by kernel_rfl) (by kernel_rfl) (fun _ _ _ h => h) (Or.inl ⟨by rfl, ?_⟩) (by assumption) ?_
      · intro w' hSw
        obtain ⟨⟨g0, g1, g2⟩, d0, d1, d2⟩ := cellsS ((hSw.off _ (lt_of_block HPS12.out.b1) (by omega) (by omega)).trans HPS12.out.b1)
        first | (go_simp; done) | rfl | (go_simp; first | exact IntWalk.i64_in _ (by omega) | exact IntWalk.u8_in _ (by omega))
      try simp only [Act.put, List.getElem_toArray, List.getElem_cons_succ, List.getElem_cons_zero, List.setIfInBounds_toArray, List.set_cons_zero, List.set_cons_succ]
      refine wpAnyH_take (i := 1) (v := .agg #[.int .u8 1, .int .u8 0, .int .i64 ((tel ts i).a : Int), .int .i64 nv, .string ⟨#[]⟩, .string ⟨#[]⟩, .string ⟨#[]⟩, .slice (some ⟨w6.heap.size, 0, none⟩) 0 0]) rfl (by kernel_rfl) (by kernel_rfl) (by kernel_rfl) (fun _ _ _ h => h) (Or.inl ⟨by rfl, ?_⟩) (by assumption) ?_
      · intro w' hSw
        obtain ⟨⟨g0, g1, g2, g3, g4, g5, g6, g7⟩, d0, d1, d2, d3, d4, d5, d6, d7⟩ := cells8' ((hSw.off _ (lt_of_block HC12.out) (by omega) (by omega)).trans HC12.out)
        first | (go_simp; done) | rfl | (go_simp; first | exact IntWalk.i64_in _ (by omega) | exact IntWalk.u8_in _ (by omega))
      try simp only [Act.put, List.getElem_toArray, List.getElem_cons_succ, List.getElem_cons_zero, List.setIfInBounds_toArray, List.set_cons_zero, List.set_cons_succ]
      refine wpAnyH_ready (rs := [2]) (by kernel_rfl) (by simp) ?_
      refine AllReadyH.cons rfl (fun K hK => ?_) AllReadyH.nil
      have HK2 := Lib.hid hK
      clear hK
      try rw [if_pos (by rfl)]
      obtain ⟨x1, x2, x3, hx2⟩ := HE0.out.s2
      refine wp_stS _ _ _ _ _ _ _ (w.heap.size + 1) _ _ (some ⟨g, 0, none⟩) n c (i5 : Int) false x1 x2 x3 rfl rfl hx2 (fun va pa => ?_)
      clear hx2
      have HEa := Lib.hid (HE0.out.two pa)
      have PA := Lib.hid pa
      clear pa
      refine HK2.out _ _ HEa.out (fun hHeld => ?_)
      clear HK2
      try simp only [Act.put, List.getElem_toArray, List.getElem_cons_succ, List.getElem_cons_zero, List.setIfInBounds_toArray, List.set_cons_zero, List.set_cons_succ]
      clear K
      refine wpAnyH_ready (rs := [3]) (by kernel_rfl) (by simp) ?_
      refine AllReadyH.cons rfl (fun K hK => ?_) AllReadyH.nil
      have HK2 := Lib.hid hK
      clear hK
      try rw [if_pos (by rfl)]
      obtain ⟨y1, y2, y3, y4, y5, y6, y7, y8, hy3⟩ := HEa.out.s3
      refine wp_stT _ _ _ _ _ _ _ (w.heap.size + 1 + 1) _ _ 1 0 ((tel ts i).a : Int) nv ⟨#[]⟩ ⟨#[]⟩ ⟨#[]⟩ (some ⟨w6.heap.size, 0, none⟩) 0 0 y1 y2 y3 y4 y5 y6 y7 y8 rfl rfl hy3 (fun vb pb => ?_)
      clear hy3
      have HEb := Lib.hid (HEa.out.three pb)
      have PB := Lib.hid pb
      clear pb
      refine HK2.out _ _ HEb.out (fun hHeld => ?_)
      clear HK2
      try simp only [Act.put, List.getElem_toArray, List.getElem_cons_succ, List.getElem_cons_zero, List.setIfInBounds_toArray, List.set_cons_zero, List.set_cons_succ]
      clear K
      refine wpAnyH_done (by kernel_rfl) ?_ _
      clear hHeld
      have htm := node0 (Parse.fresh w.heap.size vb) (h := ⟨1, 0, ((tel ts i).a : Int), nv, ⟨#[]⟩, ⟨#[]⟩, ⟨#[]⟩⟩) (dhd_any (by omega) HPL.out HNV.out e_small e_small e_small) (some ⟨w6.heap.size, 0, none⟩)
      have hr2 := (PB.out.off (w.heap.size + 1) (by omega)).trans PA.out.here
      have hr3 := PB.out.here
      obtain ⟨⟨r0, r1, r2⟩, d0, d1, d2⟩ := cellsS hr2
      obtain ⟨⟨g0, g1, g2, g3, g4, g5, g6, g7⟩, e0, e1, e2, e3, e4, e5, e6, e7⟩ := cells8' hr3
      have rl2 := lt_of_block hr2
      have rl3 := lt_of_block hr3
      have HTM := Lib.hid htm
      clear htm hr2 hr3
      go_wp2_with (fail)
      refine bodyPost_ret (v := .tuple #[.agg #[.slice (some ⟨g, 0, none⟩) n c, .int .i64 (i5 : Int), .bool false], .agg #[.int .u8 1, .int .u8 0, .int .i64 ((tel ts i).a : Int), .int .i64 nv, .string ⟨#[]⟩, .string ⟨#[]⟩, .string ⟨#[]⟩, .slice (some ⟨w6.heap.size, 0, none⟩) 0 0]]) (by simp [results, Tryz.results117, go_sem, r0, r1, r2, g0, g1, g2, g3, g4, g5, g6, g7, rl2, rl3]) rfl ⟨⟨1, 0, ((tel ts i).a : Int), nv, ⟨#[]⟩, ⟨#[]⟩, ⟨#[]⟩⟩, some ⟨w6.heap.size, 0, none⟩, 0, 0, rfl, HTM.out, HEb.out.below⟩
end Parse
end Go.Proofs.YtadpjkehflokcaaGreatDoor
namespace Go.Proofs.YtadpjkehflokcaaGreatDoor
open Go.RowKit
set_option linter.unusedVariables false
set_option linter.unusedSimpArgs false
namespace Parse
open Token (Tok tel ToksAt)
open Term (Tm Hd TmIs Flat tcells veil Reads HdOk Kids)
open Words (str_no str_yes)

set_option maxRecDepth 100000 in
set_option maxHeartbeats 51200000 in
theorem dun_name (g n c : Nat) (ts : List Tok) (m : Nat) (hU : ∀ k, k ≤ m → DPart 117 (unaryF ts k) g n c ts) (hE : ∀ k, k ≤ m → DPart 24 (exprF ts k) g n c ts) (w : World) (i : Nat) (R : St × Tm) (hR : RowAt w g n c ts) (hs : i < n) (hx : ¬ preN (textOf ts i) < 4) (hw : textOf ts i ≠ wRaise) (hk : (tel ts i).k = 2) (hF : unaryF ts (m + 1) ⟨i, false⟩ = some R) :
    Calls Tryz.prog 117 #[.agg #[.slice (some ⟨g, 0, none⟩) n c, .int .i64 (i : Int), .bool false]] w (DEnd g n c R w) := by
  obtain rfl : ((⟨i + 1, false⟩, Tm.node ⟨2, 0, plA ts i, 0, (tel ts i).s, ⟨#[]⟩, ⟨#[]⟩⟩ []) : St × Tm) = R := by
    have e : unaryF ts (m + 1) ⟨i, false⟩ = some (⟨i + 1, false⟩, Tm.node ⟨2, 0, plA ts i, 0, (tel ts i).s, ⟨#[]⟩, ⟨#[]⟩⟩ []) := by
      rw [unaryF]
      simp only [Bool.false_eq_true, if_false]
      rw [if_neg hx, if_neg hw, if_neg (by rw [hk]; decide), if_pos hk]
    rw [e] at hF
    exact Option.some.inj hF
  have hnx : i + 1 < n := row_next hR hs (by rw [hk]; decide)
  obtain ⟨i5, hi5⟩ : ∃ i5 : Nat, i5 = i + 1 := ⟨_, rfl⟩
  have he5 : (i : Int) + 1 = (i5 : Int) := by omega
  have HE5 := Lib.hid he5
  rw [← hi5] at hnx ⊢
  have HNX := Lib.hid hnx; have HW := Lib.hid hw; have HK := Lib.hid hk; have HSZ := Lib.hid (hR.texts i hs)
  have hpa : plA ts i = ((tel ts i).a : Int) := rfl
  clear hnx hi5 he5 hw hk
  have hps := ps_new w g n c ⟨i, false⟩ hs
  obtain ⟨t0, t1, t2⟩ := hR.toks i (by rw [hR.len]; exact hs)
  have hgl := World.block_lt_of_cell? w _ t0
  simp only at hgl
  have hi1 : (i : Int) < (n : Int) := by omega
  have hi0 : (0 : Int) ≤ (i : Int) := by omega
  have hi2 : (i : Int) ≤ 70000 := by have := hR.small; omega
  have hpl : -9223372036854775808 ≤ ((tel ts i).a : Int) ∧ ((tel ts i).a : Int) ≤ 9223372036854775807 := by have := hR.places i hs; omega
  obtain ⟨s0, s1, s2⟩ := (hR.below hps.below).toks i (by rw [hR.len]; exact hs)
  clear t0 t1 t2
  have hrow := fun W (hb : Below w.heap.size w W) => hR.below hb
  have htk : ∀ O, ((((w.alloc (.cells #[.slice (some ⟨g, 0, none⟩) n c, .int .i64 (i : Int), .bool false] 56)).alloc (.cells #[.slice none 0 0, .int .i64 0, .bool false] 56)).alloc (.cells #[.int .u8 0, .int .u8 0, .int .i64 0, .int .i64 0, .string ⟨#[]⟩, .string ⟨#[]⟩, .string ⟨#[]⟩, .slice none 0 0] 29)).alloc O).heap[w.heap.size + 1 + 1 + 1]? = some O := fun O => by
    have := heap_alloc_new (((w.alloc (.cells #[.slice (some ⟨g, 0, none⟩) n c, .int .i64 (i : Int), .bool false] 56)).alloc (.cells #[.slice none 0 0, .int .i64 0, .bool false] 56)).alloc (.cells #[.int .u8 0, .int .u8 0, .int .i64 0, .int .i64 0, .string ⟨#[]⟩, .string ⟨#[]⟩, .string ⟨#[]⟩, .slice none 0 0] 29)) O
    rwa [show (((w.alloc (.cells #[.slice (some ⟨g, 0, none⟩) n c, .int .i64 (i : Int), .bool false] 56)).alloc (.cells #[.slice none 0 0, .int .i64 0, .bool false] 56)).alloc (.cells #[.int .u8 0, .int .u8 0, .int .i64 0, .int .i64 0, .string ⟨#[]⟩, .string ⟨#[]⟩, .string ⟨#[]⟩, .slice none 0 0] 29)).heap.size = w.heap.size + 1 + 1 + 1 from by simp] at this
  have htx := text_walk ((((w.alloc (.cells #[.slice (some ⟨g, 0, none⟩) n c, .int .i64 (i : Int), .bool false] 56)).alloc (.cells #[.slice none 0 0, .int .i64 0, .bool false] 56)).alloc (.cells #[.int .u8 0, .int .u8 0, .int .i64 0, .int .i64 0, .string ⟨#[]⟩, .string ⟨#[]⟩, .string ⟨#[]⟩, .slice none 0 0] 29)).alloc (.cells #[.int .u8 (tel ts i).k, .string (tel ts i).s, .int .i64 ((tel ts i).a : Int)] 46)) g n c ts i false (hR.below (hps.call (al_new _)).below) hs
  have HPS := Lib.hid (hps.call (al_new (.cells #[.int .u8 (tel ts i).k, .string (tel ts i).s, .int .i64 ((tel ts i).a : Int)] 46))); have HTK := Lib.hid (htk (.cells #[.int .u8 (tel ts i).k, .string (tel ts i).s, .int .i64 ((tel ts i).a : Int)] 46)); have HTX := Lib.hid htx; have HROW := Lib.hid hrow; have HU := Lib.hid hU; have HE := Lib.hid hE; have HR := Lib.hid hR; have HPL := Lib.hid hpl
  clear hps htk htx hrow hU hE hR hF hpl
  go_enter Tryz.func117, Tryz.ntmps117
  go_wp2_with (fail)
  refine HTX.out.mono ?_
  rintro e w2 ⟨rfl, hb2⟩
  have HPS2 := Lib.hid ((HPS.out.call hb2).call (al_new (.cells #[.string ⟨#[102, 115, 116]⟩, .string ⟨#[115, 110, 100]⟩, .string ⟨#[114, 101, 102]⟩, .string ⟨#[33]⟩] 9)))
  have HTK2 := Lib.hid (bx_call (bx_call HTK.out hb2) (al_new (.cells #[.string ⟨#[102, 115, 116]⟩, .string ⟨#[115, 110, 100]⟩, .string ⟨#[114, 101, 102]⟩, .string ⟨#[33]⟩] 9)))
  have hks : ∀ j, j < 4 → (w2.alloc (.cells #[.string ⟨#[102, 115, 116]⟩, .string ⟨#[115, 110, 100]⟩, .string ⟨#[114, 101, 102]⟩, .string ⟨#[33]⟩] 9)).cell? ⟨w2.heap.size, j, none⟩ = some (.string (Words.sel [wFst, wSnd, wRef, wGet] j)) := fun j hj => by
    have h1 := heap_alloc_new w2 (.cells #[.string ⟨#[102, 115, 116]⟩, .string ⟨#[115, 110, 100]⟩, .string ⟨#[114, 101, 102]⟩, .string ⟨#[33]⟩] 9)
    have : j = 0 ∨ j = 1 ∨ j = 2 ∨ j = 3 := by omega
    rcases this with rfl | rfl | rfl | rfl <;> (unfold World.cell?; rw [h1]; rfl)
  have HKS := Lib.hid hks
  clear hb2 HPS HTK HTX hks s0 s1 s2 hgl
  generalize hxx : textOf ts i = x at *
  have HX := Lib.hid hxx
  clear hxx
  go_wp2_with (fail)
  generalize w2.alloc (.cells #[.string ⟨#[102, 115, 116]⟩, .string ⟨#[115, 110, 100]⟩, .string ⟨#[114, 101, 102]⟩, .string ⟨#[33]⟩] 9) = w5 at *
  generalize w2.heap.size = KB at *
  go_loopw [7, 33] (fun _ i' wr => ∃ j : Nat, j ≤ 4 ∧ i' = .int .i64 j ∧ (∀ k, k < j → Words.sel [wFst, wSnd, wRef, wGet] k ≠ x) ∧ wr = w5) (fun _ i' _ => 4 - (intOf i').toNat)
  case atStart => exact ⟨0, Nat.zero_le _, rfl, fun k hk => by omega, rfl⟩
  case round =>
    obtain ⟨j, hj, rfl, hall, rfl⟩ := hrel
    have HALL := Lib.hid hall
    clear hall
    by_cases hlt : j < 4
    · have kc := HKS.out j hlt
      by_cases hxj : Words.sel [wFst, wSnd, wRef, wGet] j = x
      · have hpre := preN_hit x j hlt hxj
        have exj : ((Words.sel [wFst, wSnd, wRef, wGet] j).toList == x.toList) = true := str_yes hxj
        have HPRE := Lib.hid hpre
        clear hpre hxj
        generalize Words.sel [wFst, wSnd, wRef, wGet] j = kj at *
        exact absurd (by rw [HPRE.out]; exact hlt) hx
      · have exj : ((Words.sel [wFst, wSnd, wRef, wGet] j).toList == x.toList) = false := str_no hxj
        have hall2 : ∀ k, k < j + 1 → Words.sel [wFst, wSnd, wRef, wGet] k ≠ x := fun k hk => by
          rcases Nat.lt_or_ge k j with h | h
          · exact HALL.out k h
          · rw [show k = j from by omega]; exact hxj
        have HALL2 := Lib.hid hall2
        clear hall2 hxj
        generalize hkj : Words.sel [wFst, wSnd, wRef, wGet] j = kj at *
        clear hkj
        go_wp2_with (fail)
        go_roundw
        case rel => exact ⟨j + 1, by omega, by go_num, HALL2.out, trivial⟩
        case measure => simp [intOf]; omega
    · obtain rfl : j = 4 := by omega
      have hpre := preN_miss x HALL.out
      have HPRE := Lib.hid hpre
      clear hpre
      have er : (x.toList == [114, 97, 105, 115, 101]) = false := by rw [← tlRaise]; exact str_no HW.out
      clear hx
      have ek : ((tel ts i).k == 1) = false := by rw [HK.out]; rfl
      have ek2 : ((tel ts i).k == 2) = true := by rw [HK.out]; rfl
      obtain ⟨⟨x0, x1, x2⟩, y0, y1, y2⟩ := cellsS HPS2.out.b1
      obtain ⟨⟨k0, k1, k2⟩, -⟩ := cellsS HTK2.out
      go_wp2_with ((refine wpList_stI w.heap.size 114 113 ((i : Int) + 1) _ _ _ rfl rfl HPS2.out.b1 ?_; intro w6 pi; rw [HE5.out] at pi; have HPS6 := Lib.hid (HPS2.out.state (s' := ⟨i5, false⟩) pi HNX.out); have HTK6 := Lib.hid (bx_put HTK2.out pi (by omega)); clear pi x0 x1 x2 y0 y1 y2 k0 k1 k2; obtain ⟨⟨k0, k1, k2⟩, -⟩ := cellsS HTK6.out))
      have HPS6b := Lib.hid (HPS6.out.call (al_new (.cells #[] 29)))
      have HTK6b := Lib.hid (bx_call HTK6.out (al_new (.cells #[] 29)))
      refine (term_walk _ 2 ((tel ts i).a : Int) (some ⟨w6.heap.size, 0, none⟩) 0 0).mono ?_
      rintro e w7 ⟨rfl, hb7⟩
      have hsz6 := lt_of_block HTK6.out
      have hsz7 : w6.heap.size + 1 ≤ w7.heap.size := by have := hb7.size; simpa using this
      clear k0 k1 k2
      have HPS12 := Lib.hid ((HPS6b.out.call hb7).call (al_new (.cells #[.int .u8 2, .int .u8 0, .int .i64 ((tel ts i).a : Int), .int .i64 0, .string (tel ts i).s, .string ⟨#[]⟩, .string ⟨#[]⟩, .slice (some ⟨w6.heap.size, 0, none⟩) 0 0] 29)))
      have HC12 := Lib.hid (heap_alloc_new w7 (.cells #[.int .u8 2, .int .u8 0, .int .i64 ((tel ts i).a : Int), .int .i64 0, .string (tel ts i).s, .string ⟨#[]⟩, .string ⟨#[]⟩, .slice (some ⟨w6.heap.size, 0, none⟩) 0 0] 29))
      obtain ⟨⟨k0, k1, k2⟩, -⟩ := cellsS (bx_call HTK6b.out hb7)
      have kk := bx_call HTK6b.out hb7
      have kl := lt_of_block kk
      clear hb7 kk
      go_wp2_with (fail)
      clear k0 k1 k2
      generalize w7.alloc (.cells #[.int .u8 2, .int .u8 0, .int .i64 ((tel ts i).a : Int), .int .i64 0, .string (tel ts i).s, .string ⟨#[]⟩, .string ⟨#[]⟩, .slice (some ⟨w6.heap.size, 0, none⟩) 0 0] 29) = w12 at *
      have hini := EndV.of_ps HPS12.out
      refine wp_region_held_drew (S := fun V => EndV w w12 V) (by kernel_rfl) hini (fun hHeld => ?_)
      have HE0 := Lib.hid hini
      clear hini
      generalize w12.drew = v0 at *
      refine wpAnyH_take (i := 0) (v := .agg #[.slice (some ⟨g, 0, none⟩) n c, .int .i64 (i5 : Int), .bool false]) rfl (by kernel_rfl) (by kernel_rfl) (by kernel_rfl) (fun _ _ _ h => h) (Or.inl ⟨by rfl, ?_⟩) (by assumption) ?_
      · intro w' hSw
        obtain ⟨⟨g0, g1, g2⟩, d0, d1, d2⟩ := cellsS ((hSw.off _ (lt_of_block HPS12.out.b1) (by omega) (by omega)).trans HPS12.out.b1)
        first | (go_simp; done) | rfl | (go_simp; first | exact IntWalk.i64_in _ (by omega) | exact IntWalk.u8_in _ (by omega))
      try simp only [Act.put, List.getElem_toArray, List.getElem_cons_succ, List.getElem_cons_zero, List.setIfInBounds_toArray, List.set_cons_zero, List.set_cons_succ]
      refine wpAnyH_take (i := 1) (v := .agg #[.int .u8 2, .int .u8 0, .int .i64 ((tel ts i).a : Int), .int .i64 0, .string (tel ts i).s, .string ⟨#[]⟩, .string ⟨#[]⟩, .slice (some ⟨w6.heap.size, 0, none⟩) 0 0]) rfl (by kernel_rfl) (by kernel_rfl) (by kernel_rfl) (fun _ _ _ h => h) (Or.inl ⟨by rfl, ?_⟩) (by assumption) ?_
      · intro w' hSw
        obtain ⟨⟨g0, g1, g2, g3, g4, g5, g6, g7⟩, d0, d1, d2, d3, d4, d5, d6, d7⟩ := cells8' ((hSw.off _ (lt_of_block HC12.out) (by omega) (by omega)).trans HC12.out)
        first | (go_simp; done) | rfl | (go_simp; first | exact IntWalk.i64_in _ (by omega) | exact IntWalk.u8_in _ (by omega))
      try simp only [Act.put, List.getElem_toArray, List.getElem_cons_succ, List.getElem_cons_zero, List.setIfInBounds_toArray, List.set_cons_zero, List.set_cons_succ]
      refine wpAnyH_ready (rs := [2]) (by kernel_rfl) (by simp) ?_
      refine AllReadyH.cons rfl (fun K hK => ?_) AllReadyH.nil
      have HK2 := Lib.hid hK
      clear hK
      try rw [if_pos (by rfl)]
      obtain ⟨x1, x2, x3, hx2⟩ := HE0.out.s2
      refine wp_stS _ _ _ _ _ _ _ (w.heap.size + 1) _ _ (some ⟨g, 0, none⟩) n c (i5 : Int) false x1 x2 x3 rfl rfl hx2 (fun va pa => ?_)
      clear hx2
      have HEa := Lib.hid (HE0.out.two pa)
      have PA := Lib.hid pa
      clear pa
      refine HK2.out _ _ HEa.out (fun hHeld => ?_)
      clear HK2
      try simp only [Act.put, List.getElem_toArray, List.getElem_cons_succ, List.getElem_cons_zero, List.setIfInBounds_toArray, List.set_cons_zero, List.set_cons_succ]
      clear K
      refine wpAnyH_ready (rs := [3]) (by kernel_rfl) (by simp) ?_
      refine AllReadyH.cons rfl (fun K hK => ?_) AllReadyH.nil
      have HK2 := Lib.hid hK
      clear hK
      try rw [if_pos (by rfl)]
      obtain ⟨y1, y2, y3, y4, y5, y6, y7, y8, hy3⟩ := HEa.out.s3
      refine wp_stT _ _ _ _ _ _ _ (w.heap.size + 1 + 1) _ _ 2 0 ((tel ts i).a : Int) 0 (tel ts i).s ⟨#[]⟩ ⟨#[]⟩ (some ⟨w6.heap.size, 0, none⟩) 0 0 y1 y2 y3 y4 y5 y6 y7 y8 rfl rfl hy3 (fun vb pb => ?_)
      clear hy3
      have HEb := Lib.hid (HEa.out.three pb)
      have PB := Lib.hid pb
      clear pb
      refine HK2.out _ _ HEb.out (fun hHeld => ?_)
      clear HK2
      try simp only [Act.put, List.getElem_toArray, List.getElem_cons_succ, List.getElem_cons_zero, List.setIfInBounds_toArray, List.set_cons_zero, List.set_cons_succ]
      clear K
      refine wpAnyH_done (by kernel_rfl) ?_ _
      clear hHeld
      have htm := node0 (Parse.fresh w.heap.size vb) (h := ⟨2, 0, ((tel ts i).a : Int), 0, (tel ts i).s, ⟨#[]⟩, ⟨#[]⟩⟩) (dhd_any (by omega) HPL.out (by omega) HSZ.out e_small e_small) (some ⟨w6.heap.size, 0, none⟩)
      have hr2 := (PB.out.off (w.heap.size + 1) (by omega)).trans PA.out.here
      have hr3 := PB.out.here
      obtain ⟨⟨r0, r1, r2⟩, d0, d1, d2⟩ := cellsS hr2
      obtain ⟨⟨g0, g1, g2, g3, g4, g5, g6, g7⟩, e0, e1, e2, e3, e4, e5, e6, e7⟩ := cells8' hr3
      have rl2 := lt_of_block hr2
      have rl3 := lt_of_block hr3
      have HTM := Lib.hid htm
      clear htm hr2 hr3
      go_wp2_with (fail)
      refine bodyPost_ret (v := .tuple #[.agg #[.slice (some ⟨g, 0, none⟩) n c, .int .i64 (i5 : Int), .bool false], .agg #[.int .u8 2, .int .u8 0, .int .i64 ((tel ts i).a : Int), .int .i64 0, .string (tel ts i).s, .string ⟨#[]⟩, .string ⟨#[]⟩, .slice (some ⟨w6.heap.size, 0, none⟩) 0 0]]) (by simp [results, Tryz.results117, go_sem, r0, r1, r2, g0, g1, g2, g3, g4, g5, g6, g7, rl2, rl3]) rfl ⟨⟨2, 0, ((tel ts i).a : Int), 0, (tel ts i).s, ⟨#[]⟩, ⟨#[]⟩⟩, some ⟨w6.heap.size, 0, none⟩, 0, 0, rfl, HTM.out, HEb.out.below⟩
end Parse
end Go.Proofs.YtadpjkehflokcaaGreatDoor
