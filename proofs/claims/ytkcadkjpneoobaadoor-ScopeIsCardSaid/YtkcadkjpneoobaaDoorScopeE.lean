/- The program's way through all nodes, with what is free in them. (Written by wip/tools/scopeall.py.) -/
import Derived.Test.YtkcadkjpneoobaaDoorGScopeA
import Derived.Deep.RegionHeld3
namespace Go.Proofs.YtkcadkjpneoobaaDoor
open Go.RowKit
set_option linter.unusedVariables false
set_option linter.unusedSimpArgs false
namespace Scope
open Term (Tm Hd TmIs ret_bool ret_i64 tget wt wts wts_cons wts_nil drop_tget tcells)

/-- What is asked of the closure. -/
def StepsMet {σ : Type} (Bf : List ByteArray → σ → Tm → Bool) (Sf : List ByteArray → σ → Tm → σ) (w0 : World) (B K0 K1 : Nat) (Z : World → Nat → Prop) (I : Nat → σ → World → Prop) : Prop :=
  ∀ r s W t h p l c' v ns, I (r + 1) s W → Own Z B W v ns → TmIs w0 h p l c' t → Calls Tryd.prog 41 #[v, .agg #[.int .u8 h.k, .int .u8 h.op, .int .i64 h.pl, .int .i64 h.n, .string h.name, .string h.arg, .string h.exn, .slice p l c'], .pointer (some ⟨K0, 0, none⟩), .pointer (some ⟨K1, 0, none⟩)] W (AllEnd Z (I r) (.slice none 0 0) (Bf ns s t, Sf ns s t) W)

set_option maxRecDepth 100000 in
set_option maxHeartbeats 25600000 in
theorem allMet_walk {σ : Type} (Bf : List ByteArray → σ → Tm → Bool) (Sf : List ByteArray → σ → Tm → σ) (w0 : World) (B K0 K1 : Nat) (Z : World → Nat → Prop) (I : Nat → σ → World → Prop) (hC : Clo w0 B Z I) (hS : StepsMet Bf Sf w0 B K0 K1 Z I) :
    ∀ (m : Nat) (ts : List Tm) (p : Option Addr) (l d r : Nat) (s : σ) (v : Value) (ns : List ByteArray) (w : World), wts ts ≤ m → ts.length = l → l ≤ maxLen → Tops w0 w p ts → (ts ≠ [] → Far Z w v p) → Own Z B w v ns → ns.length + 2 * wts ts ≤ 90000 → I (r + wts ts) s w →
    Calls Tryd.prog 25 #[.func (.func 41) #[] #[.pointer (some ⟨K0, 0, none⟩), .pointer (some ⟨K1, 0, none⟩)], v, .slice p l d] w (AllEnd Z (I r) v (scL Bf Sf ns ts s) w) := by
  have GC := Lib.hid hC; have GS := Lib.hid hS
  clear hC hS
  intro m
  induction m using Nat.strongRecOn with
  | _ m ih =>
    intro ts p l d r s v ns w hm hl hlm hk hf ho hns hi
    unfold maxLen at hlm
    have HM := Lib.hid hm; have HL := Lib.hid hl; have HK := Lib.hid hk; have HF := Lib.hid hf; have HO := Lib.hid ho; have HNS := Lib.hid hns; have HI := Lib.hid hi; have IH := Lib.hid ih
    clear hm hl hk hf ho hns hi ih
    go_enter Tryd.func25, Tryd.ntmps25
    go_wp2_with (fail)
    go_loopw [8, 13] (fun _ i wr => ∃ (j : Nat) (u : σ), j ≤ l ∧ i = .int .i64 j ∧ Hid (scL Bf Sf ns ts s = scL Bf Sf ns (ts.drop j) u) ∧ Hid (I (r + wts (ts.drop j)) u wr) ∧ Hid (Keep (Z w) v w wr) ∧ Hid (∀ b, b < w.heap.size → Z wr b → Z w b)) (fun _ i _ => l - (intOf i).toNat)
    case atStart => exact ⟨0, s, Nat.zero_le _, rfl, Lib.hid (by rw [List.drop_zero]), Lib.hid (by rw [List.drop_zero]; exact HI.out), Lib.hid (Keep.refl _ _ _), Lib.hid (fun _ _ h => h)⟩
    case round =>
      obtain ⟨j, u, hj, rfl, HQ, HJ, HKP, HZ⟩ := hrel
      by_cases hlt : j < l
      · have hjk : j < ts.length := by rw [HL.out]; exact hlt
        obtain ⟨b, o, q, c', rfl, hkid, c0, c1, c2, c3, c4, c5, c6, c7⟩ := HK.out j hjk
        have hbl := World.block_lt_of_cell? w _ c0
        simp only at hbl
        obtain ⟨hzb, hvb⟩ := HF.out (by intro e; rw [e] at hjk; simp at hjk) b o rfl hbl
        have ec := fun a => HKP.out.cell (a := ⟨b, a, none⟩) hbl hzb hvb
        have e0 := (ec _).trans c0
        have e1 := (ec _).trans c1
        have e2 := (ec _).trans c2
        have e3 := (ec _).trans c3
        have e4 := (ec _).trans c4
        have e5 := (ec _).trans c5
        have e6 := (ec _).trans c6
        have e7 := (ec _).trans c7
        have el : b < wr.heap.size := Nat.lt_of_lt_of_le hbl HKP.out.size
        have howr : Own Z B wr v ns := ⟨HO.out.1.keep HKP.out (fun b hb => HO.out.2 b hb), fun b hb h => HO.out.2 b hb (HZ.out b (HO.out.1.high hb).2 h)⟩
        have hwd := wts_drop ts j hjk
        have hwd' := wts_drop' ts j hjk
        have hwm := wt_drop_le ts j
        have hal : Below wr.heap.size wr (wr.alloc (.cells #[.int .u8 (tget ts j).h.k, .int .u8 (tget ts j).h.op, .int .i64 (tget ts j).h.pl, .int .i64 (tget ts j).h.n, .string (tget ts j).h.name, .string (tget ts j).h.arg, .string (tget ts j).h.exn, .slice q (tget ts j).ks.length c'] 27)) := (Below.refl _ _).alloc (Nat.le_refl _) _
        have hi0 : I ((r + wts (ts.drop (j + 1)) + wts (tget ts j).ks) + 1) u wr := GC.out.less _ _ _ _ HJ.out (by omega)
        obtain ⟨hi1, hz1⟩ := GC.out.keep _ _ _ (wr.alloc (.cells #[.int .u8 (tget ts j).h.k, .int .u8 (tget ts j).h.op, .int .i64 (tget ts j).h.pl, .int .i64 (tget ts j).h.n, .string (tget ts j).h.name, .string (tget ts j).h.arg, .string (tget ts j).h.exn, .slice q (tget ts j).ks.length c'] 27)) v hi0 (Keep.of_below hal) howr.dis
        have hown1 : Own Z B (wr.alloc (.cells #[.int .u8 (tget ts j).h.k, .int .u8 (tget ts j).h.op, .int .i64 (tget ts j).h.pl, .int .i64 (tget ts j).h.n, .string (tget ts j).h.name, .string (tget ts j).h.arg, .string (tget ts j).h.exn, .slice q (tget ts j).ks.length c'] 27)) v ns := ⟨howr.1.keep (Keep.of_below (Z := fun _ => False) hal) (fun _ _ h => h), fun b hb h => howr.2 b hb (hz1 b h)⟩
        have hst := GS.out _ _ _ _ _ _ _ _ _ _ hi1 hown1 hkid
        have hzbox : ¬ Z (wr.alloc (.cells #[.int .u8 (tget ts j).h.k, .int .u8 (tget ts j).h.op, .int .i64 (tget ts j).h.pl, .int .i64 (tget ts j).h.n, .string (tget ts j).h.name, .string (tget ts j).h.arg, .string (tget ts j).h.exn, .slice q (tget ts j).ks.length c'] 27)) wr.heap.size := fun h => by have := (GC.out.zone _ _ _ _ hi0 (hz1 _ h)).2; omega
        have hkw : Keep (Z w) v w (wr.alloc (.cells #[.int .u8 (tget ts j).h.k, .int .u8 (tget ts j).h.op, .int .i64 (tget ts j).h.pl, .int .i64 (tget ts j).h.n, .string (tget ts j).h.name, .string (tget ts j).h.arg, .string (tget ts j).h.exn, .slice q (tget ts j).ks.length c'] 27)) := HKP.out.trans (Keep.of_below (Z := fun _ => False) hal) (fun _ _ h => h.elim) (.inl ⟨rfl, Nat.le_refl _⟩)
        have hzw : ∀ b, b < w.heap.size → Z (wr.alloc (.cells #[.int .u8 (tget ts j).h.k, .int .u8 (tget ts j).h.op, .int .i64 (tget ts j).h.pl, .int .i64 (tget ts j).h.n, .string (tget ts j).h.name, .string (tget ts j).h.arg, .string (tget ts j).h.exn, .slice q (tget ts j).ks.length c'] 27)) b → Z w b := fun b hb h => HZ.out b hb (hz1 b h)
        have HST := Lib.hid hst; have HZB := Lib.hid hzbox; have HKW := Lib.hid hkw; have HZW := Lib.hid hzw; have HOW := Lib.hid hown1; have HKID := Lib.hid hkid; have HJK := Lib.hid hjk; have HWD := Lib.hid (And.intro hwd (And.intro hwd' hwm))
        clear hst hzbox hkw hzw hown1 hkid hjk hwd hwd' hwm hal hi0 hi1 hz1 howr ec c0 c1 c2 c3 c4 c5 c6 c7 hbl hzb hvb
        go_wp2_with (fail)
        refine HST.out.mono ?_
        rintro e w1 ⟨rfl, hi2, hk2, hz2⟩
        have htb : w1.heap[wr.heap.size]? = some (.cells #[.int .u8 (tget ts j).h.k, .int .u8 (tget ts j).h.op, .int .i64 (tget ts j).h.pl, .int .i64 (tget ts j).h.n, .string (tget ts j).h.name, .string (tget ts j).h.arg, .string (tget ts j).h.exn, .slice q (tget ts j).ks.length c'] 27 (0, 0)) := (hk2.block _ (by simp) HZB.out (by simp [Value.ownBlock])).trans (heap_alloc_new wr _)
        have hk12 : Keep (Z w) v w w1 := HKW.out.trans hk2.any HZW.out (.inl ⟨rfl, Nat.le_refl _⟩)
        have hz12 : ∀ b, b < w.heap.size → Z w1 b → Z w b := fun b hb h => HZW.out b hb (hz2 b (Nat.lt_of_lt_of_le hb HKW.out.size) h)
        have hown2 : Own Z B w1 v ns := ⟨HOW.out.1.far hk2 (fun b hb => ⟨HOW.out.2 b hb, by simp [Value.ownBlock]⟩), fun b hb h => HOW.out.2 b hb (hz2 b (HOW.out.1.high hb).2 h)⟩
        have hnt : ¬ Z w1 wr.heap.size := fun h => HZB.out (hz2 _ (by simp) h)
        have HNT := Lib.hid hnt; have HI2 := Lib.hid hi2; have HTB := Lib.hid htb; have HK12 := Lib.hid hk12; have HZ12 := Lib.hid hz12; have HO2 := Lib.hid hown2
        clear hnt hi2 hk2 hz2 htb hk12 hz12 hown2 e0 e1 e2 e3 e4 e5 e6 e7 el HST HZB HKW HZW HOW
        obtain ⟨⟨t0, t1, t2, t3, t4, t5, t6, t7⟩, f0, f1, f2, f3, f4, f5, f6, f7⟩ := cells8' HTB.out
        have tl := lt_of_block HTB.out
        cases hb : Bf ns u (tget ts j)
        · have hno := scL_no Bf Sf HJK.out hb
          have HNO := Lib.hid hno
          clear hno hb
          go_wp2
          go_ret
          exact ⟨ret_bool (by rw [HQ.out, HNO.out]), by rw [HQ.out, HNO.out]; exact GC.out.less _ _ _ _ HI2.out (by omega), HK12.out, HZ12.out⟩
        · have HB := Lib.hid hb
          clear hb
          have htw : wr.heap.size < w1.heap.size := tl
          have hkl : (tget ts j).ks.length ≤ 9223372036854775807 := by have := HKID.out.cap; unfold maxLen at this; omega
          generalize wr.heap.size = tb at *
          go_wp2_with (fail)
          go_loopw [9, 10, 25] (fun _ _ ii wi => ∃ (i : Nat) (u2 : σ), i ≤ (tget ts j).ks.length ∧ ii = .int .i64 i ∧ Hid (scK Bf Sf (tget ts j).ks (tget ts j).h 0 ns (Sf ns u (tget ts j)) = scK Bf Sf ((tget ts j).ks.drop i) (tget ts j).h i ns u2) ∧ Hid (I (r + wts (ts.drop (j + 1)) + wts ((tget ts j).ks.drop i)) u2 wi) ∧ Hid (Keep (Z w) v w wi) ∧ Hid (∀ b, b < w.heap.size → Z wi b → Z w b) ∧ Hid (wi.heap[tb]? = some (.cells #[.int .u8 (tget ts j).h.k, .int .u8 (tget ts j).h.op, .int .i64 (tget ts j).h.pl, .int .i64 (tget ts j).h.n, .string (tget ts j).h.name, .string (tget ts j).h.arg, .string (tget ts j).h.exn, .slice q (tget ts j).ks.length c'] 27 (0, 0))) ∧ Hid (¬ Z wi tb)) (fun _ _ ii _ => (tget ts j).ks.length - (intOf ii).toNat)
          case atStart => exact ⟨0, _, Nat.zero_le _, rfl, Lib.hid (by rw [List.drop_zero]), Lib.hid (by rw [List.drop_zero]; exact HI2.out), HK12, HZ12, HTB, HNT⟩
          case round =>
            obtain ⟨i, u2, hii, rfl, HQ2, HJ2, HKP2, HZ2, HTB2, HNT2⟩ := hrel
            by_cases hlt2 : i < (tget ts j).ks.length
            · obtain ⟨bk, okk, qk, ck, rfl, hkid2, d0, d1, d2, d3, d4, d5, d6, d7⟩ := HKID.out.kids.get i hlt2
              have hb0 := (GC.out.base _ _ _ HJ2.out).1
              have ed := fun a (h : bk < w0.heap.size) => hb0.cell (p := ⟨bk, a, none⟩) h
              have hbk := World.block_lt_of_cell? w0 _ d0
              simp only at hbk
              have e0 := (ed _ hbk).trans d0
              have e1 := (ed _ hbk).trans d1
              have e2 := (ed _ hbk).trans d2
              have e3 := (ed _ hbk).trans d3
              have e4 := (ed _ hbk).trans d4
              have e5 := (ed _ hbk).trans d5
              have e6 := (ed _ hbk).trans d6
              have e7 := (ed _ hbk).trans d7
              have el := Nat.lt_of_lt_of_le hbk hb0.size
              have hwd := wts_drop' (tget ts j).ks i hlt2
              have hwk := wt_drop_le (tget ts j).ks i
              have howi : Own Z B wr v ns := ⟨HO.out.1.keep HKP2.out (fun b hb => HO.out.2 b hb), fun b hb h => HO.out.2 b hb (HZ2.out b (HO.out.1.high hb).2 h)⟩
              have hal : Below wr.heap.size wr (wr.alloc (.cells #[.int .u8 (tget (tget ts j).ks i).h.k, .int .u8 (tget (tget ts j).ks i).h.op, .int .i64 (tget (tget ts j).ks i).h.pl, .int .i64 (tget (tget ts j).ks i).h.n, .string (tget (tget ts j).ks i).h.name, .string (tget (tget ts j).ks i).h.arg, .string (tget (tget ts j).ks i).h.exn, .slice qk (tget (tget ts j).ks i).ks.length ck] 27)).drew := ((Below.refl _ _).alloc (Nat.le_refl _) _).drew
              have hi0 : I (r + wts (ts.drop (j + 1)) + wts ((tget ts j).ks.drop (i + 1)) + wt (tget (tget ts j).ks i)) u2 wr := GC.out.less _ _ _ _ HJ2.out (by omega)
              obtain ⟨hi1, hz1⟩ := GC.out.keep _ _ _ (wr.alloc (.cells #[.int .u8 (tget (tget ts j).ks i).h.k, .int .u8 (tget (tget ts j).ks i).h.op, .int .i64 (tget (tget ts j).ks i).h.pl, .int .i64 (tget (tget ts j).ks i).h.n, .string (tget (tget ts j).ks i).h.name, .string (tget (tget ts j).ks i).h.arg, .string (tget (tget ts j).ks i).h.exn, .slice qk (tget (tget ts j).ks i).ks.length ck] 27)).drew v hi0 (Keep.of_below hal) howi.dis
              have hown1 : Own Z B (wr.alloc (.cells #[.int .u8 (tget (tget ts j).ks i).h.k, .int .u8 (tget (tget ts j).ks i).h.op, .int .i64 (tget (tget ts j).ks i).h.pl, .int .i64 (tget (tget ts j).ks i).h.n, .string (tget (tget ts j).ks i).h.name, .string (tget (tget ts j).ks i).h.arg, .string (tget (tget ts j).ks i).h.exn, .slice qk (tget (tget ts j).ks i).ks.length ck] 27)).drew v ns := ⟨howi.1.keep (Keep.of_below (Z := fun _ => False) hal) (fun _ _ h => h), fun b hb h => howi.2 b hb (hz1 b h)⟩
              have hX : (wr.alloc (.cells #[.int .u8 (tget (tget ts j).ks i).h.k, .int .u8 (tget (tget ts j).ks i).h.op, .int .i64 (tget (tget ts j).ks i).h.pl, .int .i64 (tget (tget ts j).ks i).h.n, .string (tget (tget ts j).ks i).h.name, .string (tget (tget ts j).ks i).h.arg, .string (tget (tget ts j).ks i).h.exn, .slice qk (tget (tget ts j).ks i).ks.length ck] 27)).drew.heap[tb]? = some (.cells #[.int .u8 (tget ts j).h.k, .int .u8 (tget ts j).h.op, .int .i64 (tget ts j).h.pl, .int .i64 (tget ts j).h.n, .string (tget ts j).h.name, .string (tget ts j).h.arg, .string (tget ts j).h.exn, .slice (some ⟨bk, okk, none⟩) (tget ts j).ks.length c'] 27 (0, 0)) ∧ (wr.alloc (.cells #[.int .u8 (tget (tget ts j).ks i).h.k, .int .u8 (tget (tget ts j).ks i).h.op, .int .i64 (tget (tget ts j).ks i).h.pl, .int .i64 (tget (tget ts j).ks i).h.n, .string (tget (tget ts j).ks i).h.name, .string (tget (tget ts j).ks i).h.arg, .string (tget (tget ts j).ks i).h.exn, .slice qk (tget (tget ts j).ks i).ks.length ck] 27)).drew.heap[wr.heap.size]? = some (.cells #[.int .u8 (tget (tget ts j).ks i).h.k, .int .u8 (tget (tget ts j).ks i).h.op, .int .i64 (tget (tget ts j).ks i).h.pl, .int .i64 (tget (tget ts j).ks i).h.n, .string (tget (tget ts j).ks i).h.name, .string (tget (tget ts j).ks i).h.arg, .string (tget (tget ts j).ks i).h.exn, .slice qk (tget (tget ts j).ks i).ks.length ck] 27 (0, 0)) := ⟨(hal.block _ (lt_of_block HTB2.out)).trans HTB2.out, heap_alloc_new wr _⟩
              have hnz : ¬ Z (wr.alloc (.cells #[.int .u8 (tget (tget ts j).ks i).h.k, .int .u8 (tget (tget ts j).ks i).h.op, .int .i64 (tget (tget ts j).ks i).h.pl, .int .i64 (tget (tget ts j).ks i).h.n, .string (tget (tget ts j).ks i).h.name, .string (tget (tget ts j).ks i).h.arg, .string (tget (tget ts j).ks i).h.exn, .slice qk (tget (tget ts j).ks i).ks.length ck] 27)).drew wr.heap.size := fun h => by have := (GC.out.zone _ _ _ _ hi0 (hz1 _ h)).2; omega
              have hnt : ¬ Z (wr.alloc (.cells #[.int .u8 (tget (tget ts j).ks i).h.k, .int .u8 (tget (tget ts j).ks i).h.op, .int .i64 (tget (tget ts j).ks i).h.pl, .int .i64 (tget (tget ts j).ks i).h.n, .string (tget (tget ts j).ks i).h.name, .string (tget (tget ts j).ks i).h.arg, .string (tget (tget ts j).ks i).h.exn, .slice qk (tget (tget ts j).ks i).ks.length ck] 27)).drew tb := fun h => HNT2.out (hz1 _ h)
              have hkw : Keep (Z w) v w (wr.alloc (.cells #[.int .u8 (tget (tget ts j).ks i).h.k, .int .u8 (tget (tget ts j).ks i).h.op, .int .i64 (tget (tget ts j).ks i).h.pl, .int .i64 (tget (tget ts j).ks i).h.n, .string (tget (tget ts j).ks i).h.name, .string (tget (tget ts j).ks i).h.arg, .string (tget (tget ts j).ks i).h.exn, .slice qk (tget (tget ts j).ks i).ks.length ck] 27)).drew := HKP2.out.trans (Keep.of_below (Z := fun _ => False) hal) (fun _ _ h => h.elim) (.inl ⟨rfl, Nat.le_refl _⟩)
              have hzw : ∀ b, b < w.heap.size → Z (wr.alloc (.cells #[.int .u8 (tget (tget ts j).ks i).h.k, .int .u8 (tget (tget ts j).ks i).h.op, .int .i64 (tget (tget ts j).ks i).h.pl, .int .i64 (tget (tget ts j).ks i).h.n, .string (tget (tget ts j).ks i).h.name, .string (tget (tget ts j).ks i).h.arg, .string (tget (tget ts j).ks i).h.exn, .slice qk (tget (tget ts j).ks i).ks.length ck] 27)).drew b → Z w b := fun b hb h => HZ2.out b hb (hz1 b h)
              have hBs := (GC.out.base _ _ _ hi1).2
              have hnl : ns.length + 2 * wt (tget ts j) ≤ 90000 := by have := HNS.out; have := Term.wts_get HJK.out; omega
              have hwtk := Term.wt_ks (tget ts j)
              have hwkk := Term.wts_get hlt2
              have HKID2 := Lib.hid hkid2; have HLT2 := Lib.hid hlt2; have HI1 := Lib.hid hi1; have HO1 := Lib.hid hown1; have HX := Lib.hid hX; have HNZ := Lib.hid hnz; have HNT := Lib.hid hnt; have HKW := Lib.hid hkw; have HZW := Lib.hid hzw; have HBS := Lib.hid hBs; have HNL := Lib.hid (And.intro hnl (And.intro hwtk hwkk))
              clear hnt t0 t1 t2 t3 t4 t5 t6 t7 f0 f1 f2 f3 f4 f5 f6 f7 tl d0 d1 d2 d3 d4 d5 d6 d7 hb0 ed hbk hkid2 hwd hwk howi hal hi0 hi1 hz1 hown1 hX hnz hkw hzw hBs hnl hwtk hwkk
              go_wp2_with (fail)
              refine wp_region_held_drew (S := fun W => W.heap[tb]? = some (.cells #[.int .u8 (tget ts j).h.k, .int .u8 (tget ts j).h.op, .int .i64 (tget ts j).h.pl, .int .i64 (tget ts j).h.n, .string (tget ts j).h.name, .string (tget ts j).h.arg, .string (tget ts j).h.exn, .slice (some ⟨bk, okk, none⟩) (tget ts j).ks.length c'] 27 (0, 0)) ∧ W.heap[wr.heap.size]? = some (.cells #[.int .u8 (tget (tget ts j).ks i).h.k, .int .u8 (tget (tget ts j).ks i).h.op, .int .i64 (tget (tget ts j).ks i).h.pl, .int .i64 (tget (tget ts j).ks i).h.n, .string (tget (tget ts j).ks i).h.name, .string (tget (tget ts j).ks i).h.arg, .string (tget (tget ts j).ks i).h.exn, .slice qk (tget (tget ts j).ks i).ks.length ck] 27 (0, 0))) (by kernel_rfl) HX.out (fun hHeld => ?_)
              generalize (wr.alloc (.cells #[.int .u8 (tget (tget ts j).ks i).h.k, .int .u8 (tget (tget ts j).ks i).h.op, .int .i64 (tget (tget ts j).ks i).h.pl, .int .i64 (tget (tget ts j).ks i).h.n, .string (tget (tget ts j).ks i).h.name, .string (tget (tget ts j).ks i).h.arg, .string (tget (tget ts j).ks i).h.exn, .slice qk (tget (tget ts j).ks i).ks.length ck] 27)).drew = v0 at *
              refine wpAnyH_take (i := 0) (v := .func (.func 41) #[] #[.pointer (some ⟨K0, 0, none⟩), .pointer (some ⟨K1, 0, none⟩)]) rfl (by kernel_rfl) (by kernel_rfl) (by kernel_rfl) (fun _ _ _ h => h) (Or.inl ⟨by rfl, ?_⟩) (by assumption) ?_
              · intro w' hSw
                go_simp
              try simp only [Act.put, List.getElem_toArray, List.getElem_cons_succ, List.getElem_cons_zero, List.setIfInBounds_toArray, List.set_cons_zero, List.set_cons_succ]
              refine wpAnyH_take (i := 1) (v := v) rfl (by kernel_rfl) (by kernel_rfl) (by kernel_rfl) (fun _ _ _ h => h) (Or.inl ⟨by rfl, ?_⟩) (by assumption) ?_
              · intro w' hSw
                go_simp
              try simp only [Act.put, List.getElem_toArray, List.getElem_cons_succ, List.getElem_cons_zero, List.setIfInBounds_toArray, List.set_cons_zero, List.set_cons_succ]
              refine wpAnyH_take (i := 2) (v := .agg #[.int .u8 (tget ts j).h.k, .int .u8 (tget ts j).h.op, .int .i64 (tget ts j).h.pl, .int .i64 (tget ts j).h.n, .string (tget ts j).h.name, .string (tget ts j).h.arg, .string (tget ts j).h.exn, .slice (some ⟨bk, okk, none⟩) (tget ts j).ks.length c']) rfl (by kernel_rfl) (by kernel_rfl) (by kernel_rfl) (fun _ _ _ h => h) (Or.inl ⟨by rfl, ?_⟩) (by assumption) ?_
              · intro w' hSw
                obtain ⟨⟨q0, q1, q2, q3, q4, q5, q6, q7⟩, g0, g1, g2, g3, g4, g5, g6, g7⟩ := cells8' hSw.1
                go_simp
              try simp only [Act.put, List.getElem_toArray, List.getElem_cons_succ, List.getElem_cons_zero, List.setIfInBounds_toArray, List.set_cons_zero, List.set_cons_succ]
              refine wpAnyH_take (i := 3) (v := .int .i64 (i : Int)) rfl (by kernel_rfl) (by kernel_rfl) (by kernel_rfl) (fun _ _ _ h => h) (Or.inl ⟨by rfl, ?_⟩) (by assumption) ?_
              · intro w' hSw
                go_simp
              try simp only [Act.put, List.getElem_toArray, List.getElem_cons_succ, List.getElem_cons_zero, List.setIfInBounds_toArray, List.set_cons_zero, List.set_cons_succ]
              refine wpAnyH_take (i := 5) (v := .agg #[.int .u8 (tget (tget ts j).ks i).h.k, .int .u8 (tget (tget ts j).ks i).h.op, .int .i64 (tget (tget ts j).ks i).h.pl, .int .i64 (tget (tget ts j).ks i).h.n, .string (tget (tget ts j).ks i).h.name, .string (tget (tget ts j).ks i).h.arg, .string (tget (tget ts j).ks i).h.exn, .slice qk (tget (tget ts j).ks i).ks.length ck]) rfl (by kernel_rfl) (by kernel_rfl) (by kernel_rfl) (fun _ _ _ h => h) (Or.inl ⟨by rfl, ?_⟩) (by assumption) ?_
              · intro w' hSw
                obtain ⟨⟨q0, q1, q2, q3, q4, q5, q6, q7⟩, g0, g1, g2, g3, g4, g5, g6, g7⟩ := cells8' hSw.2
                go_simp
              try simp only [Act.put, List.getElem_toArray, List.getElem_cons_succ, List.getElem_cons_zero, List.setIfInBounds_toArray, List.set_cons_zero, List.set_cons_succ]
              refine wpAnyH_ready (rs := [4, 6]) (by kernel_rfl) (by simp) ?_
              have HH := Lib.hid hHeld
              clear hHeld
              refine AllReadyH.cons rfl (fun K hK => ?_) (AllReadyH.cons rfl (fun K hK => ?_) AllReadyH.nil)
              · have HK2 := Lib.hid hK
                clear hK
                go_simp
                refine (within_walk v0 B v ns (tget ts j).h.k (tget ts j).h.op (tget ts j).h.pl (tget ts j).h.n (tget ts j).h.name (tget ts j).h.arg (tget ts j).h.exn (some ⟨bk, okk, none⟩) (tget ts j).ks.length c' i HO1.out.1 (by have := HNL.out; omega) HBS.out).mono ?_
                rintro e V1 ⟨v1, rfl, hn1, hk1, hv1⟩
                have hx1 : V1.heap[tb]? = some (.cells #[.int .u8 (tget ts j).h.k, .int .u8 (tget ts j).h.op, .int .i64 (tget ts j).h.pl, .int .i64 (tget ts j).h.n, .string (tget ts j).h.name, .string (tget ts j).h.arg, .string (tget ts j).h.exn, .slice (some ⟨bk, okk, none⟩) (tget ts j).ks.length c'] 27 (0, 0)) := (hk1.block _ (lt_of_block HX.out.1) (fun h => h) (ne_box HO1.out.1 HX.out.1)).trans HX.out.1
                have hx2 : V1.heap[wr.heap.size]? = some (.cells #[.int .u8 (tget (tget ts j).ks i).h.k, .int .u8 (tget (tget ts j).ks i).h.op, .int .i64 (tget (tget ts j).ks i).h.pl, .int .i64 (tget (tget ts j).ks i).h.n, .string (tget (tget ts j).ks i).h.name, .string (tget (tget ts j).ks i).h.arg, .string (tget (tget ts j).ks i).h.exn, .slice qk (tget (tget ts j).ks i).ks.length ck] 27 (0, 0)) := (hk1.block _ (lt_of_block HX.out.2) (fun h => h) (ne_box HO1.out.1 HX.out.2)).trans HX.out.2
                refine HK2.out _ _ ⟨hx1, hx2⟩ (fun hHeld => ?_)
                have hal : Below V1.heap.size V1 (V1.alloc (.cells #[.int .u8 (tget (tget ts j).ks i).h.k, .int .u8 (tget (tget ts j).ks i).h.op, .int .i64 (tget (tget ts j).ks i).h.pl, .int .i64 (tget (tget ts j).ks i).h.n, .string (tget (tget ts j).ks i).h.name, .string (tget (tget ts j).ks i).h.arg, .string (tget (tget ts j).ks i).h.exn, .slice qk (tget (tget ts j).ks i).ks.length ck] 27)) := (Below.refl _ _).alloc (Nat.le_refl _) _
                have HKA := Lib.hid (hk1.trans (Keep.of_below (Z := fun _ => False) (v := v) hal) (fun _ _ h => h) (.inl ⟨rfl, Nat.le_refl _⟩))
                have HNA := Lib.hid (hn1.keep (Keep.of_below (Z := fun _ => False) hal) (fun _ _ h => h))
                have HVA := Lib.hid hv1
                have HBA := Lib.hid (heap_alloc_new V1 (.cells #[.int .u8 (tget (tget ts j).ks i).h.k, .int .u8 (tget (tget ts j).ks i).h.op, .int .i64 (tget (tget ts j).ks i).h.pl, .int .i64 (tget (tget ts j).ks i).h.n, .string (tget (tget ts j).ks i).h.name, .string (tget (tget ts j).ks i).h.arg, .string (tget (tget ts j).ks i).h.exn, .slice qk (tget (tget ts j).ks i).ks.length ck] 27))
                have hy1 := Lib.hid ((hal.block _ (lt_of_block hx1)).trans hx1); have hy2 := Lib.hid ((hal.block _ (lt_of_block hx2)).trans hx2)
                have hsz := Lib.hid hk1.size
                clear hn1 hk1 hv1 hx1 hx2 hal
                try simp only [Act.put, List.getElem_toArray, List.getElem_cons_succ, List.getElem_cons_zero, List.setIfInBounds_toArray, List.set_cons_zero, List.set_cons_succ]
                clear HK2 K
                refine wpAnyH_ready (rs := [6]) (by kernel_rfl) (by simp) ?_
                refine AllReadyH.cons rfl (fun K hK => ?_) AllReadyH.nil
                have HK2 := Lib.hid hK; have HH1 := Lib.hid hHeld
                clear hK hHeld
                go_simp
                refine HK2.out _ _ ⟨hy1.out, hy2.out⟩ (fun hHeld => ?_)
                try simp only [Act.put, List.getElem_toArray, List.getElem_cons_succ, List.getElem_cons_zero, List.setIfInBounds_toArray, List.set_cons_zero, List.set_cons_succ]
                clear HK2 K
                refine wpAnyH_ready (rs := [7]) (by kernel_rfl) (by simp) ?_
                refine AllReadyH.cons rfl (fun K hK => ?_) AllReadyH.nil
                have HK2 := Lib.hid hK; have HH1 := Lib.hid hHeld
                clear hK hHeld
                go_simp
                refine (step_all GC.out (r' := r + wts (ts.drop (j + 1)) + wts ((tget ts j).ks.drop (i + 1))) (R := scT Bf Sf (tget (tget ts j).ks i) (boundP ns (tget ts j).h i) u2) HI1.out HO1.out HKA.out HNA.out HVA.out hsz.out HKID2.out HBA.out (fun ht hf hw hi => by
                  rw [← scL_one Bf Sf]
                  exact IH.out (wt (tget (tget ts j).ks i)) (by have := HNL.out; have := HWD.out; have := HM.out; omega) [(tget (tget ts j).ks i)] _ 1 1 _ u2 v1 _ _ (by rw [wts_cons, wts_nil]; omega) rfl (by unfold maxLen; omega) ht (fun _ => hf) hw (by rw [wts_cons, wts_nil]; have := boundP_len ns (tget ts j).h i; have := HNL.out; omega) (by rw [wts_cons, wts_nil]; exact hi))).mono ?_
                rintro e W' ⟨rfl, hi3, hk3, hz3⟩
                refine HK2.out _ _ ⟨(hk3.block _ (lt_of_block HX.out.1) HNT.out (ne_box HO1.out.1 HX.out.1)).trans HX.out.1, (hk3.block _ (lt_of_block HX.out.2) HNZ.out (ne_box HO1.out.1 HX.out.2)).trans HX.out.2⟩ (fun hHeld => ?_)
                have hkf : Keep (Z w) v w W' := HKW.out.trans hk3 HZW.out (.inl ⟨rfl, Nat.le_refl _⟩)
                have hzf : ∀ b, b < w.heap.size → Z W' b → Z w b := fun b hb h => HZW.out b hb (hz3 b (Nat.lt_of_lt_of_le hb HKW.out.size) h)
                have htf : W'.heap[tb]? = some (.cells #[.int .u8 (tget ts j).h.k, .int .u8 (tget ts j).h.op, .int .i64 (tget ts j).h.pl, .int .i64 (tget ts j).h.n, .string (tget ts j).h.name, .string (tget ts j).h.arg, .string (tget ts j).h.exn, .slice (some ⟨bk, okk, none⟩) (tget ts j).ks.length c'] 27 (0, 0)) := (hk3.block _ (lt_of_block HX.out.1) HNT.out (ne_box HO1.out.1 HX.out.1)).trans HX.out.1
                have hnf : ¬ Z W' tb := fun h => HNT.out (hz3 _ (lt_of_block HX.out.1) h)
                have HI3 := Lib.hid hi3; have HKF := Lib.hid hkf; have HZF := Lib.hid hzf; have HTF := Lib.hid htf; have HNF := Lib.hid hnf
                clear hi3 hk3 hz3 hkf hzf htf hnf
                try simp only [Act.put, List.getElem_toArray, List.getElem_cons_succ, List.getElem_cons_zero, List.setIfInBounds_toArray, List.set_cons_zero, List.set_cons_succ]
                clear HK2 K
                refine wpAnyH_ready (rs := [8]) (by kernel_rfl) (by simp) ?_
                refine AllReadyH.cons rfl (fun K hK => ?_) AllReadyH.nil
                have HK2 := Lib.hid hK; have HH1 := Lib.hid hHeld
                clear hK hHeld
                go_simp
                refine HK2.out _ _ HH1.out (fun hHeld => ?_)
                try simp only [Act.put, List.getElem_toArray, List.getElem_cons_succ, List.getElem_cons_zero, List.setIfInBounds_toArray, List.set_cons_zero, List.set_cons_succ]
                clear HK2 K hHeld
                refine wpAnyH_done (by kernel_rfl) ?_ _
                cases hres : (scT Bf Sf (tget (tget ts j).ks i) (boundP ns (tget ts j).h i) u2).1
                · have hno := scK_no Bf Sf HLT2.out hres
                  have hko := scL_kno Bf Sf HJK.out HB.out (by rw [HQ2.out, hno])
                  rw [HQ2.out, hno] at hko
                  have HKO := Lib.hid hko
                  clear hno hko hres
                  go_wp2
                  go_ret
                  exact ⟨ret_bool (by rw [HQ.out, HKO.out]), by rw [HQ.out, HKO.out]; exact GC.out.less _ _ _ _ HI3.out (by omega), HKF.out, HZF.out⟩
                · have hyes := scK_yes Bf Sf HLT2.out hres
                  have HY := Lib.hid (HQ2.out.trans hyes)
                  have hlt3 := HLT2.out
                  clear hyes hres
                  go_wp2
                  go_roundw
                  case rel => exact ⟨i + 1, _, by omega, by go_num, HY, HI3, HKF, HZF, HTF, HNF⟩
                  case measure => simp [intOf]; omega
              · have HK2 := Lib.hid hK
                clear hK
                go_simp
                have hal : Below v0.heap.size v0 (v0.alloc (.cells #[.int .u8 (tget (tget ts j).ks i).h.k, .int .u8 (tget (tget ts j).ks i).h.op, .int .i64 (tget (tget ts j).ks i).h.pl, .int .i64 (tget (tget ts j).ks i).h.n, .string (tget (tget ts j).ks i).h.name, .string (tget (tget ts j).ks i).h.arg, .string (tget (tget ts j).ks i).h.exn, .slice qk (tget (tget ts j).ks i).ks.length ck] 27)) := (Below.refl _ _).alloc (Nat.le_refl _) _
                have hy1 := (hal.block _ (lt_of_block HX.out.1)).trans HX.out.1
                have hy2 := (hal.block _ (lt_of_block HX.out.2)).trans HX.out.2
                refine HK2.out _ _ ⟨hy1, hy2⟩ (fun hHeld => ?_)
                have hnb := HO1.out.1.keep (Keep.of_below (Z := fun _ => False) hal) (fun _ _ h => h)
                have hbb := Nat.le_trans HBS.out hal.size
                have HNB := Lib.hid hnb; have HBB := Lib.hid hbb; have HAL := Lib.hid hal; have HY1 := Lib.hid hy1; have HY2 := Lib.hid hy2
                clear hal hy1 hy2 hnb hbb
                try simp only [Act.put, List.getElem_toArray, List.getElem_cons_succ, List.getElem_cons_zero, List.setIfInBounds_toArray, List.set_cons_zero, List.set_cons_succ]
                clear HK2 K
                refine wpAnyH_ready (rs := [4]) (by kernel_rfl) (by simp) ?_
                refine AllReadyH.cons rfl (fun K hK => ?_) AllReadyH.nil
                have HK2 := Lib.hid hK; have HH1 := Lib.hid hHeld
                clear hK hHeld
                go_simp
                refine (within_walk _ B v ns (tget ts j).h.k (tget ts j).h.op (tget ts j).h.pl (tget ts j).h.n (tget ts j).h.name (tget ts j).h.arg (tget ts j).h.exn (some ⟨bk, okk, none⟩) (tget ts j).ks.length c' i HNB.out (by have := HNL.out; omega) HBB.out).mono ?_
                rintro e V1 ⟨v1, rfl, hn1, hk1, hv1⟩
                have hx1 : V1.heap[tb]? = some (.cells #[.int .u8 (tget ts j).h.k, .int .u8 (tget ts j).h.op, .int .i64 (tget ts j).h.pl, .int .i64 (tget ts j).h.n, .string (tget ts j).h.name, .string (tget ts j).h.arg, .string (tget ts j).h.exn, .slice (some ⟨bk, okk, none⟩) (tget ts j).ks.length c'] 27 (0, 0)) := (hk1.block _ (lt_of_block HY1.out) (fun h => h) (ne_box HNB.out HY1.out)).trans HY1.out
                have hx2 : V1.heap[wr.heap.size]? = some (.cells #[.int .u8 (tget (tget ts j).ks i).h.k, .int .u8 (tget (tget ts j).ks i).h.op, .int .i64 (tget (tget ts j).ks i).h.pl, .int .i64 (tget (tget ts j).ks i).h.n, .string (tget (tget ts j).ks i).h.name, .string (tget (tget ts j).ks i).h.arg, .string (tget (tget ts j).ks i).h.exn, .slice qk (tget (tget ts j).ks i).ks.length ck] 27 (0, 0)) := (hk1.block _ (lt_of_block HY2.out) (fun h => h) (ne_box HNB.out HY2.out)).trans HY2.out
                refine HK2.out _ _ ⟨hx1, hx2⟩ (fun hHeld => ?_)
                have HKA := Lib.hid ((Keep.of_below (Z := fun _ => False) (v := v) HAL.out).trans hk1 (fun _ _ h => h) (.inl ⟨rfl, Nat.le_refl _⟩))
                have HNA := Lib.hid hn1
                have HVA : Hid ((v1.ownBlock = v.ownBlock ∧ lenV v ≤ lenV v1) ∨ ∀ b, v1.ownBlock = some b → v0.heap.size ≤ b) := Lib.hid (hv1.imp id fun h b hb => Nat.le_trans HAL.out.size (h b hb))
                have HBA := Lib.hid ((hk1.block _ (by simp) (fun h => h) (ne_box HNB.out (heap_alloc_new v0 (.cells #[.int .u8 (tget (tget ts j).ks i).h.k, .int .u8 (tget (tget ts j).ks i).h.op, .int .i64 (tget (tget ts j).ks i).h.pl, .int .i64 (tget (tget ts j).ks i).h.n, .string (tget (tget ts j).ks i).h.name, .string (tget (tget ts j).ks i).h.arg, .string (tget (tget ts j).ks i).h.exn, .slice qk (tget (tget ts j).ks i).ks.length ck] 27)))).trans (heap_alloc_new v0 (.cells #[.int .u8 (tget (tget ts j).ks i).h.k, .int .u8 (tget (tget ts j).ks i).h.op, .int .i64 (tget (tget ts j).ks i).h.pl, .int .i64 (tget (tget ts j).ks i).h.n, .string (tget (tget ts j).ks i).h.name, .string (tget (tget ts j).ks i).h.arg, .string (tget (tget ts j).ks i).h.exn, .slice qk (tget (tget ts j).ks i).ks.length ck] 27)))
                clear hn1 hk1 hv1 hx1 hx2
                try simp only [Act.put, List.getElem_toArray, List.getElem_cons_succ, List.getElem_cons_zero, List.setIfInBounds_toArray, List.set_cons_zero, List.set_cons_succ]
                clear HK2 K
                refine wpAnyH_ready (rs := [7]) (by kernel_rfl) (by simp) ?_
                refine AllReadyH.cons rfl (fun K hK => ?_) AllReadyH.nil
                have HK2 := Lib.hid hK; have HH1 := Lib.hid hHeld
                clear hK hHeld
                go_simp
                refine (step_all GC.out (r' := r + wts (ts.drop (j + 1)) + wts ((tget ts j).ks.drop (i + 1))) (R := scT Bf Sf (tget (tget ts j).ks i) (boundP ns (tget ts j).h i) u2) HI1.out HO1.out HKA.out HNA.out HVA.out (Nat.le_refl _) HKID2.out HBA.out (fun ht hf hw hi => by
                  rw [← scL_one Bf Sf]
                  exact IH.out (wt (tget (tget ts j).ks i)) (by have := HNL.out; have := HWD.out; have := HM.out; omega) [(tget (tget ts j).ks i)] _ 1 1 _ u2 v1 _ _ (by rw [wts_cons, wts_nil]; omega) rfl (by unfold maxLen; omega) ht (fun _ => hf) hw (by rw [wts_cons, wts_nil]; have := boundP_len ns (tget ts j).h i; have := HNL.out; omega) (by rw [wts_cons, wts_nil]; exact hi))).mono ?_
                rintro e W' ⟨rfl, hi3, hk3, hz3⟩
                refine HK2.out _ _ ⟨(hk3.block _ (lt_of_block HX.out.1) HNT.out (ne_box HO1.out.1 HX.out.1)).trans HX.out.1, (hk3.block _ (lt_of_block HX.out.2) HNZ.out (ne_box HO1.out.1 HX.out.2)).trans HX.out.2⟩ (fun hHeld => ?_)
                have hkf : Keep (Z w) v w W' := HKW.out.trans hk3 HZW.out (.inl ⟨rfl, Nat.le_refl _⟩)
                have hzf : ∀ b, b < w.heap.size → Z W' b → Z w b := fun b hb h => HZW.out b hb (hz3 b (Nat.lt_of_lt_of_le hb HKW.out.size) h)
                have htf : W'.heap[tb]? = some (.cells #[.int .u8 (tget ts j).h.k, .int .u8 (tget ts j).h.op, .int .i64 (tget ts j).h.pl, .int .i64 (tget ts j).h.n, .string (tget ts j).h.name, .string (tget ts j).h.arg, .string (tget ts j).h.exn, .slice (some ⟨bk, okk, none⟩) (tget ts j).ks.length c'] 27 (0, 0)) := (hk3.block _ (lt_of_block HX.out.1) HNT.out (ne_box HO1.out.1 HX.out.1)).trans HX.out.1
                have hnf : ¬ Z W' tb := fun h => HNT.out (hz3 _ (lt_of_block HX.out.1) h)
                have HI3 := Lib.hid hi3; have HKF := Lib.hid hkf; have HZF := Lib.hid hzf; have HTF := Lib.hid htf; have HNF := Lib.hid hnf
                clear hi3 hk3 hz3 hkf hzf htf hnf
                try simp only [Act.put, List.getElem_toArray, List.getElem_cons_succ, List.getElem_cons_zero, List.setIfInBounds_toArray, List.set_cons_zero, List.set_cons_succ]
                clear HK2 K
                refine wpAnyH_ready (rs := [8]) (by kernel_rfl) (by simp) ?_
                refine AllReadyH.cons rfl (fun K hK => ?_) AllReadyH.nil
                have HK2 := Lib.hid hK; have HH1 := Lib.hid hHeld
                clear hK hHeld
                go_simp
                refine HK2.out _ _ HH1.out (fun hHeld => ?_)
                try simp only [Act.put, List.getElem_toArray, List.getElem_cons_succ, List.getElem_cons_zero, List.setIfInBounds_toArray, List.set_cons_zero, List.set_cons_succ]
                clear HK2 K hHeld
                refine wpAnyH_done (by kernel_rfl) ?_ _
                cases hres : (scT Bf Sf (tget (tget ts j).ks i) (boundP ns (tget ts j).h i) u2).1
                · have hno := scK_no Bf Sf HLT2.out hres
                  have hko := scL_kno Bf Sf HJK.out HB.out (by rw [HQ2.out, hno])
                  rw [HQ2.out, hno] at hko
                  have HKO := Lib.hid hko
                  clear hno hko hres
                  go_wp2
                  go_ret
                  exact ⟨ret_bool (by rw [HQ.out, HKO.out]), by rw [HQ.out, HKO.out]; exact GC.out.less _ _ _ _ HI3.out (by omega), HKF.out, HZF.out⟩
                · have hyes := scK_yes Bf Sf HLT2.out hres
                  have HY := Lib.hid (HQ2.out.trans hyes)
                  have hlt3 := HLT2.out
                  clear hyes hres
                  go_wp2
                  go_roundw
                  case rel => exact ⟨i + 1, _, by omega, by go_num, HY, HI3, HKF, HZF, HTF, HNF⟩
                  case measure => simp [intOf]; omega
            · obtain rfl : i = (tget ts j).ks.length := by omega
              have hq := HQ2.out
              have hj2 := HJ2.out
              rw [List.drop_eq_nil_of_le (Nat.le_refl _)] at hq hj2
              rw [scK_nil] at hq
              rw [wts_nil] at hj2
              have hyes := scL_yes Bf Sf HJK.out HB.out (by rw [hq])
              rw [hq] at hyes
              have HY := Lib.hid (HQ.out.trans hyes); have HJ3 := Lib.hid hj2
              clear hq hj2 hyes
              go_wp2_with (fail)
              go_roundw
              case rel => exact ⟨j + 1, _, by omega, by go_num, HY, HJ3, HKP2, HZ2⟩
              case measure => simp [intOf]; omega
      · obtain rfl : j = l := by omega
        have hr := HQ.out
        have hi := HJ.out
        rw [List.drop_eq_nil_of_le (by rw [HL.out]; exact Nat.le_refl _)] at hr hi
        rw [scL] at hr
        rw [wts_nil] at hi
        have HR := Lib.hid hr; have HI2 := Lib.hid hi
        clear hr hi
        go_wp2
        go_ret
        exact ⟨ret_bool (by rw [HR.out]), by rw [HR.out]; exact HI2.out, HKP.out, HZ.out⟩
end Scope
end Go.Proofs.YtkcadkjpneoobaaDoor
