import Derived.Test.YtkfkpjngiffamaaGreatDoorGC11
import Derived.Test.YtkfkpjngiffamaaGreatDoorGC09
import Derived.Test.YtkfkpjngiffamaaGreatDoorGC10
import Derived.Test.YtkfkpjngiffamaaGreatDoorGC04
import Derived.Maps.OwnSet
namespace Go.Proofs.YtkfkpjngiffamaaGreatDoor
open Go.RowKit
set_option linter.unusedVariables false
set_option linter.unusedSimpArgs false
namespace Aterm
open Rt (box_new box_at below_then)
open Effect (ret_bool ret_i64 lt_of_block heap_alloc_new)

set_option maxRecDepth 10000 in
set_option maxHeartbeats 6400000 in
theorem allMay_walk {σ : Type} (B : σ → AT → Bool) (S : σ → AT → σ) (C : Hd → Nat → Bool) (w0 : World) (P : Nat → Option Obj → Prop) (K0 : Nat) (I : Nat → σ → World → Prop) (hI : Goes w0 P I) (hC : Steps 44 [.pointer (some ⟨K0, 0, none⟩)] B S C w0 P I) :
  ∀ (m : Nat) (ts : List AT) (p : Option Addr) (l d r : Nat) (s : σ) (w : World), wts ts ≤ m → ts.length = l → l ≤ maxLen → (∀ W, Tch P w W → RowS w0 W p ts) → Below w0.heap.size w0 w → allK C ts = true → I (r + wts ts) s w →
  Calls Tryz.prog 43 #[.func (.func 44) #[] #[.pointer (some ⟨K0, 0, none⟩)], .slice p l d] w (FoEnd P (I r) (foK B S ts s) w) := by
 have GI := Lib.hid hI; have GC := Lib.hid hC
 clear hI hC
 intro m
 induction m using Nat.strongRecOn with
 | _ m ih =>
  intro ts p l d r s w hm hl hlm hk hb00 hcc hi
  unfold maxLen at hlm
  have HM := Lib.hid hm; have HL := Lib.hid hl; have HK := Lib.hid hk; have HI := Lib.hid hi; have IH := Lib.hid ih; have HB00 := Lib.hid hb00; have HCC := Lib.hid hcc
  clear hm hl hk hi ih hb00 hcc
  go_enter Tryz.func43, Tryz.ntmps43
  go_wp2_with (fail)
  go_loopw [6, 9] (fun _ i wr => ∃ (j : Nat) (u : σ), j ≤ l ∧ i = .int .i64 j ∧ Hid (foK B S ts s = foK B S (ts.drop j) u) ∧ Hid (I (r + wts (ts.drop j)) u wr) ∧ Hid (Tch P w wr)) (fun _ i _ => l - (intOf i).toNat)
  case atStart => exact ⟨0, s, Nat.zero_le _, rfl, Lib.hid (by rw [List.drop_zero]), Lib.hid (by rw [List.drop_zero]; exact HI.out), Lib.hid (Tch.refl _)⟩
  case round =>
   obtain ⟨j, u, hj, rfl, HF, HJ, HS⟩ := hrel
   by_cases hlt : j < l
   ·have hjk : j < ts.length := by rw [HL.out]; exact hlt
    obtain ⟨b, o, v, rfl, hkid, hrg⟩ := HK.out wr HS.out j hjk
    have hbr : Below w0.heap.size w0 wr := HS.out.below GI.out.low HB00.out (Nat.le_refl _)
    have hcj := allK_get _ hjk HCC.out
    rw [allT_eq, Bool.and_eq_true] at hcj
    have hwd := wts_drop' ts j hjk
    have hwm : wts (tget ts j).ks < wts ts := by have h1 := wts_get hjk; have h2 := wt_ks (tget ts j); omega
    have hin : I ((r + wts (ts.drop (j + 1))) + wts (tget ts j).ks + 1) u wr := GI.out.less _ _ _ _ HJ.out (by omega)
    have hnew := GI.out.new _ _ _ HJ.out
    have HJK := Lib.hid hjk; have HKID := Lib.hid hkid; have HWM := Lib.hid hwm; have HIN := Lib.hid hin; have HRG := Lib.hid hrg; have HBR := Lib.hid hbr; have HCJ := Lib.hid hcj; have HNEW := Lib.hid hnew
    clear hjk hkid hwd hwm hin hrg hbr hcj hnew
    go_upto_region 4 with (first | refine at_load rfl _ rfl b (o + j * 19) rfl HRG.out ?_ | refine at_store rfl _ _ rfl _ rfl (tget ts j).h v (tget ts j).ks.length rfl rfl ?_)
    obtain ⟨W0, hW0⟩ : ∃ W0, W0 = wr.alloc (.cells #[.int .u8 (tget ts j).h.h.k, .int .u8 (tget ts j).h.h.op, .int .i64 (tget ts j).h.h.pl, .int .i64 (tget ts j).h.h.n, .string (tget ts j).h.h.name, .string (tget ts j).h.h.arg, .string (tget ts j).h.h.exn, .int .i64 (tget ts j).h.rho, .slice v.ra (tget ts j).h.rhos.length v.rc, .slice v.ea (tget ts j).h.e.length v.ec, .int .u8 (tget ts j).h.ty.h.k, .int .i64 (tget ts j).h.ty.h.r, .slice v.tea (tget ts j).h.ty.h.e.length v.tec, .slice v.tka (tget ts j).h.ty.ks.length v.tkc, .int .u8 (tget ts j).h.re.h.k, .int .i64 (tget ts j).h.re.h.r, .slice v.sea (tget ts j).h.re.h.e.length v.sec, .slice v.ska (tget ts j).h.re.ks.length v.skc, .slice v.ka (tget ts j).ks.length v.kc] 31) := ⟨_, rfl⟩
    have hbx : Box W0 wr.heap.size (tget ts j).h v (tget ts j).ks.length := by rw [hW0]; exact box_of (w := wr) (h := (tget ts j).h) (v := v) (l := (tget ts j).ks.length)
    have hb0 : Below wr.heap.size wr W0 := by rw [hW0]; exact box_new _
    have hnp : ¬ P wr.heap.size W0.heap[wr.heap.size]? := by
     rw [hW0, heap_alloc_new]
     exact HNEW.out _ _
    rw [← hW0]
    clear hW0
    have HSA := Lib.hid (HS.out.trans (Tch.of_below hb0))
    have HST := Lib.hid (GI.out.keep _ _ _ _ HIN.out hb0); have HBR0 := Lib.hid (below_then HBR.out hb0 HBR.out.size)
    generalize hN0 : wr.heap.size = N0 at hbx hnp ⊢
    have HNP := Lib.hid hnp; have HBX := Lib.hid hbx; have HRB := Lib.hid hbx.range
    clear hb0 hN0 hbx hnp
    go_wp2_with (refine at_load rfl _ rfl N0 0 rfl HRB.out ?_)
    refine (GC.out _ _ _ (tget ts j) (tget ts j).h v (tget ts j).ks.length HST.out HKID.out HCJ.out.1 HBR0.out).mono ?_
    rintro e w1 ⟨rfl, hi1, hs1⟩
    obtain ⟨b0, b1, b2, b3, b4, b5, b6, b7, b8, b9, b10, b11, b12, b13, b14, b15, b16, b17, b18⟩ := hs1.box HBX.out HNP.out
    clear b0 b1 b2 b3 b4 b5 b6 b7 b8 b9 b10 b11 b12 b13 b14 b15 b16 b17
    have HI1 := Lib.hid hi1
    have HS1 := Lib.hid (HSA.out.trans hs1)
    clear hi1 hs1
    cases hb : B u (tget ts j)
    ·have hno := foK_no B S HJK.out hb
     have hi2 := GI.out.less _ r _ _ HI1.out (by omega)
     have HNO := Lib.hid hno; have HB := Lib.hid hb; have HI2 := Lib.hid hi2
     clear hno hb hi2
     go_wp2_with (fail)
     go_ret
     exact ⟨ret_bool (by rw [HF.out, HNO.out]), by rw [HF.out, HNO.out]; exact HI2.out, HS1.out⟩
    ·have HB := Lib.hid hb
     clear hb
     go_wp2_with (fail)
     refine (IH.out (wts (tget ts j).ks) (by have := HWM.out; have := HM.out; omega) (tget ts j).ks v.ka _ v.kc (r + wts (ts.drop (j + 1))) _ _ (Nat.le_refl _) rfl (Nat.le_trans HKID.out.cap.1 HKID.out.cap.2) (fun W hW => rowS_kids HKID.out.kids ((HS1.out.trans hW).below GI.out.low HB00.out (Nat.le_refl _))) (HS1.out.below GI.out.low HB00.out (Nat.le_refl _)) HCJ.out.2 HI1.out).mono ?_
     rintro e w2 ⟨rfl, hi3, hs3⟩
     have HI3 := Lib.hid hi3
     have HS3 := Lib.hid (HS1.out.trans hs3)
     clear hi3 hs3 b18
     cases hk : (foK B S (tget ts j).ks (S u (tget ts j))).1
     ·have hno := foK_kno B S HJK.out HB.out hk
      have hi4 := GI.out.less _ r _ _ HI3.out (by omega)
      have HNO := Lib.hid hno; have HKB := Lib.hid hk; have HI4 := Lib.hid hi4
      clear hno hk hi4
      go_wp2_with (fail)
      go_ret
      exact ⟨ret_bool (by rw [HF.out, HNO.out]), by rw [HF.out, HNO.out]; exact HI4.out, HS3.out⟩
     ·have hyes := foK_yes B S HJK.out HB.out hk
      have HYES := Lib.hid hyes; have HKB := Lib.hid hk
      clear hyes hk
      go_wp2_with (fail)
      go_roundw
      case rel => exact ⟨j + 1, _, by omega, by go_num, Lib.hid (HF.out.trans HYES.out), HI3, HS3⟩
      case measure => simp [intOf]; omega
   ·obtain rfl : j = l := by omega
    have hr := HF.out
    have hi := HJ.out
    rw [List.drop_eq_nil_of_le (by rw [HL.out]; exact Nat.le_refl _)] at hr hi
    rw [foK_nil] at hr
    rw [wts_nil] at hi
    have HR := Lib.hid hr; have HI2 := Lib.hid hi
    clear hr hi
    go_wp2_with (fail)
    go_ret
    exact ⟨ret_bool (by rw [HR.out]), by rw [HR.out]; exact HI2.out, HS.out⟩
end Aterm
end Go.Proofs.YtkfkpjngiffamaaGreatDoor
namespace Go.Proofs.YtkfkpjngiffamaaGreatDoor
open Go.RowKit
set_option linter.unusedVariables false
set_option linter.unusedSimpArgs false
namespace Aterm
open Effect (RdI nget nget_at nget_mem ret_bool ret_i64 lt_of_block heap_alloc_new ofA)
open Rt (box_new box_at below_then)

theorem row_one {w0 W : World} {t : AT} {h : Hd} {v : V} {l g : Nat} (hT : AtIs w0 h v l t) (hr : W.rangeAt g 0 (acells h v l)) : RowS w0 W (some ⟨g, 0, none⟩) [t] := by
 obtain ⟨h1, h2, h3, h4, h5⟩ := hT
 subst h1 h2
 intro i hi
 have hi0 : i = 0 := by simp at hi; omega
 subst hi0
 exact ⟨g, 0, v, rfl, ⟨rfl, rfl, h3, h4, h5⟩, by rw [Nat.zero_mul, Nat.add_zero]; exact hr⟩
theorem allK_of1 (B : Hd → Nat → Bool) (t : AT) : allK B [t] = allT B t := by rw [allK_cons, allK_nil, Bool.and_true]
theorem row_new {W : World} {N : Nat} (hN : N = W.heap.size) {h : Hd} {v : V} {l : Nat} {ty : TypeId} : (W.alloc (.cells #[.int .u8 h.h.k, .int .u8 h.h.op, .int .i64 h.h.pl, .int .i64 h.h.n, .string h.h.name, .string h.h.arg, .string h.h.exn, .int .i64 h.rho, .slice v.ra h.rhos.length v.rc, .slice v.ea h.e.length v.ec, .int .u8 h.ty.h.k, .int .i64 h.ty.h.r, .slice v.tea h.ty.h.e.length v.tec, .slice v.tka h.ty.ks.length v.tkc, .int .u8 h.re.h.k, .int .i64 h.re.h.r, .slice v.sea h.re.h.e.length v.sec, .slice v.ska h.re.ks.length v.skc, .slice v.ka l v.kc] ty)).rangeAt N 0 (acells h v l) := by
 subst hN
 exact box_of.range
end Aterm
end Go.Proofs.YtkfkpjngiffamaaGreatDoor
namespace Go.Proofs.YtkfkpjngiffamaaGreatDoor
open Go.RowKit
set_option linter.unusedVariables false
set_option linter.unusedSimpArgs false
namespace Aterm
open Effect (RdI nget nget_at nget_mem ret_bool ret_i64 lt_of_block heap_alloc_new ofA)
open Rt (box_new box_at below_then)

theorem from1_walk (N : Nat) (x least : Int) (W : World) (hc : W.cell? ⟨N, 0, none⟩ = some (.int .i64 least)) :
  Calls Tryz.prog 101 #[.int .i64 x, .pointer (some ⟨N, 0, none⟩)] W fun e W' => e = .returned (.bool (decide (x < least))) ∧ W' = W := by
 go_enter Tryz.func101, Tryz.ntmps101
 go_wp2
 go_ret
 exact ⟨rfl, rfl⟩
set_option maxRecDepth 10000 in
set_option maxHeartbeats 3200000 in
theorem indexFrom_walk {n c : Nat} {a : Option Addr} {l : List Int} {w : World} (h : RdI w n a l) (hn : n ≤ 100000) (N : Nat) (least : Int) (hc : w.cell? ⟨N, 0, none⟩ = some (.int .i64 least)) :
  Calls Tryz.prog 119 #[.slice a n c, .func (.func 101) #[] #[.pointer (some ⟨N, 0, none⟩)]] w fun e w' => ∃ i : Int, e = .returned (.int .i64 i) ∧ (0 ≤ i ↔ ∃ x ∈ l, x < least) ∧ -1 ≤ i ∧ i ≤ 100000 ∧ w' = w := by
 have H := Lib.hid h; have HC := Lib.hid hc
 clear h hc
 go_enter Tryz.func119, Tryz.ntmps119
 go_wp2_with (fail)
 go_loopw [5, 8] (fun _ i wr => ∃ j : Nat, j ≤ n ∧ i = .int .i64 (j : Int) ∧ Hid (wr = w) ∧ Hid (∀ i, i < j → least ≤ nget l i)) (fun _ i _ => n - (intOf i).toNat)
 case atStart => exact ⟨0, Nat.zero_le _, rfl, Lib.hid rfl, Lib.hid (fun i hi => absurd hi (Nat.not_lt_zero _))⟩
 case round =>
  obtain ⟨j, hj, rfl, HW, HA⟩ := hrel
  by_cases hlt : j < n
  ·have hjl : j < l.length := by rw [H.out.len]; exact hlt
   obtain ⟨b1, o1, rfl, e0⟩ := H.out.get j hjl
   rw [← HW.out] at e0
   have hf := from1_walk N (nget l j) least wr (by rw [HW.out]; exact HC.out)
   have HF := Lib.hid hf; have HJL := Lib.hid hjl
   clear hf hjl
   go_wp2_with (fail)
   refine HF.out.mono ?_
   rintro e wx ⟨rfl, hw⟩
   obtain rfl := hw.symm
   clear hw
   by_cases hx : nget l j < least
   ·rw [decide_eq_true hx]
    have HX := Lib.hid hx
    clear hx
    go_wp2_with (fail)
    go_ret
    exact ⟨j, rfl, ⟨fun _ => ⟨_, nget_mem HJL.out, HX.out⟩, fun _ => by omega⟩, by omega, by omega, HW.out⟩
   ·rw [decide_eq_false hx]
    have HX := Lib.hid hx
    clear hx
    go_wp2_with (fail)
    go_roundw
    case rel => exact ⟨j + 1, by omega, by go_num, HW, Lib.hid fun i hi => by
      by_cases e : i = j
      ·rw [e]; have := HX.out; omega
      ·exact HA.out i (by omega)⟩
    case measure => simp [intOf]; omega
  ·obtain rfl : j = n := by omega
   go_wp2_with (fail)
   go_ret
   refine ⟨-1, rfl, ⟨fun h => by omega, ?_⟩, by omega, by omega, HW.out⟩
   rintro ⟨x, hx, hl⟩
   obtain ⟨i, hi, e⟩ := List.mem_iff_getElem.1 hx
   have h1 := HA.out i (by rw [← H.out.len]; exact hi)
   have := nget_at hi
   rw [List.getElem?_eq_getElem hi, e] at this
   rw [← Option.some.inj this] at h1
   omega
theorem containsFrom_walk {n c : Nat} {a : Option Addr} {l : List Int} {w : World} (h : RdI w n a l) (hn : n ≤ 100000) (N : Nat) (least : Int) (hc : w.cell? ⟨N, 0, none⟩ = some (.int .i64 least)) :
  Calls Tryz.prog 100 #[.slice a n c, .func (.func 101) #[] #[.pointer (some ⟨N, 0, none⟩)]] w fun e w' => e = .returned (.bool (decide (∃ x ∈ l, x < least))) ∧ w' = w := by
 have H := Lib.hid (indexFrom_walk (c := c) h hn N least hc)
 clear h hc
 go_enter Tryz.func100, Tryz.ntmps100
 go_wp2_with (fail)
 refine H.out.mono ?_
 rintro e wx ⟨i, rfl, hi, hi1, hi2, hw⟩
 obtain rfl := hw.symm
 clear hw
 have hd : decide (∃ x ∈ l, x < least) = decide (0 ≤ i) := decide_eq_decide.2 hi.symm
 have HD := Lib.hid hd
 clear hd hi
 go_wp2_with (fail)
 go_ret
 exact ⟨ret_bool HD.out.symm, rfl⟩
theorem from_walk {n c : Nat} {a : Option Addr} {l : List Int} {w : World} (h : RdI w n a l) (hn : n ≤ 100000) (least : Int) :
  Calls Tryz.prog 82 #[.int .i64 least, .slice a n c] w fun e w' => e = .returned (.bool (decide (∀ x ∈ l, least ≤ x))) ∧ Below w.heap.size w w' := by
 have hb : Below w.heap.size w (w.alloc (.cells #[.int .i64 least] 3)) := box_new _
 have H := Lib.hid (containsFrom_walk (c := c) (h.below hb) hn w.heap.size least (box_at (Below.refl _ _) 0 rfl)); have HB := Lib.hid hb
 have hd : decide (∀ x ∈ l, least ≤ x) = !decide (∃ x ∈ l, x < least) := by
  by_cases hx : ∃ x ∈ l, x < least
  ·rw [decide_eq_true hx, decide_eq_false]
   ·rfl
   ·intro ha
    obtain ⟨x, h1, h2⟩ := hx
    have := ha x h1
    omega
  ·rw [decide_eq_false hx, decide_eq_true]
   ·rfl
   ·intro x h1
    by_cases hl : x < least
    ·exact absurd ⟨x, h1, hl⟩ hx
    ·omega
 have HD := Lib.hid hd
 clear h hb hd
 go_enter Tryz.func82, Tryz.ntmps82
 go_wp2_with (fail)
 refine H.out.mono ?_
 rintro e wx ⟨rfl, hw⟩
 obtain rfl := hw.symm
 clear hw
 go_wp2_with (fail)
 go_ret
 exact ⟨ret_bool HD.out.symm, HB.out⟩
end Aterm
end Go.Proofs.YtkfkpjngiffamaaGreatDoor
namespace Go.Proofs.YtkfkpjngiffamaaGreatDoor
open Go.RowKit
set_option linter.unusedVariables false
set_option linter.unusedSimpArgs false
namespace Aterm
open Effect (RdI nget nget_at nget_mem ret_bool ret_i64 lt_of_block heap_alloc_new ofA)
open Rt (box_new box_at below_then)

set_option maxRecDepth 10000 in
theorem none_walk (t : Rt.RT) (pe : Option Addr) (ce : Nat) (p : Option Addr) (c : Nat) (w : World) (hl : t.ks.length ≤ 9223372036854775807) (he : t.h.e.length ≤ 9223372036854775807) :
  Calls Tryz.prog 86 #[.agg #[.int .u8 t.h.k, .int .i64 t.h.r, .slice pe t.h.e.length ce, .slice p t.ks.length c]] w fun e w' => e = .returned (.bool (plainB t)) ∧ Below w.heap.size w w' := by
 have hp : plainB t = decide (t.h.k = 0 ∧ t.h.r = 0 ∧ t.h.e.length = 0 ∧ t.ks.length = 0) := rfl
 have hbox : ∀ O : Obj, Below w.heap.size w (w.alloc O) := fun O => box_new O
 have HBOX := Lib.hid hbox
 clear hbox
 generalize t.h.e.length = n at *
 generalize t.ks.length = l at *
 generalize t.h.k = k at *
 generalize t.h.r = r at *
 generalize plainB t = B at *
 by_cases h1 : k = 0
 ·subst h1
  by_cases h2 : r = 0
  ·subst h2
   by_cases h3 : n = 0
   ·subst h3
    by_cases h4 : l = 0
    ·subst h4
     have HP := Lib.hid (show B = true by rw [hp]; simp)
     clear hp
     go_enter Tryz.func86, Tryz.ntmps86
     go_wp2_with (fail)
     go_ret
     exact ⟨ret_bool HP.out.symm, HBOX.out _⟩
    ·have HP := Lib.hid (show B = false by rw [hp]; simp [h4])
     have hx : ((l : Int) == 0) = false := by rw [beq_eq_false_iff_ne]; omega
     clear hp h4
     go_enter Tryz.func86, Tryz.ntmps86
     go_wp2_with (fail)
     go_ret
     exact ⟨ret_bool HP.out.symm, HBOX.out _⟩
   ·have HP := Lib.hid (show B = false by rw [hp]; simp [h3])
    have hx : ((n : Int) == 0) = false := by rw [beq_eq_false_iff_ne]; omega
    clear hp h3
    go_enter Tryz.func86, Tryz.ntmps86
    go_wp2_with (fail)
    go_ret
    exact ⟨ret_bool HP.out.symm, HBOX.out _⟩
  ·have HP := Lib.hid (show B = false by rw [hp]; simp [h2])
   have hx : (r == 0) = false := by simpa using h2
   clear hp h2
   go_enter Tryz.func86, Tryz.ntmps86
   go_wp2_with (fail)
   go_ret
   exact ⟨ret_bool HP.out.symm, HBOX.out _⟩
 ·have HP := Lib.hid (show B = false by rw [hp]; simp [h1])
  have hx : (k == 0) = false := by simpa using h1
  clear hp h1
  go_enter Tryz.func86, Tryz.ntmps86
  go_wp2_with (fail)
  go_ret
  exact ⟨ret_bool HP.out.symm, HBOX.out _⟩

theorem of_not {a b : Int} (h : ¬ a = b) : (a == b) = false := by simpa using h
set_option maxRecDepth 10000 in
set_option maxHeartbeats 3200000 in
theorem rhoFits_walk (t : AT) (h : Hd) (v : V) (l : Nat) (w : World) (hT : AtIs w h v l t) :
  Calls Tryz.prog 61 #[.agg #[.int .u8 h.h.k, .int .u8 h.h.op, .int .i64 h.h.pl, .int .i64 h.h.n, .string h.h.name, .string h.h.arg, .string h.h.exn, .int .i64 h.rho, .slice v.ra h.rhos.length v.rc, .slice v.ea h.e.length v.ec, .int .u8 h.ty.h.k, .int .i64 h.ty.h.r, .slice v.tea h.ty.h.e.length v.tec, .slice v.tka h.ty.ks.length v.tkc, .int .u8 h.re.h.k, .int .i64 h.re.h.r, .slice v.sea h.re.h.e.length v.sec, .slice v.ska h.re.ks.length v.skc, .slice v.ka l v.kc]] w fun e w' => e = .returned (.bool (rhoOk h)) ∧ Below w.heap.size w w' := by
 have hrho := hT.ok.rho
 have hr : rhoOk h = if h.h.k = 3 ∨ h.h.k = 6 ∨ h.h.k = 11 ∨ h.h.k = 13 ∨ h.h.k = 18 then decide (0 ≤ h.rho) else if h.h.k = 17 then decide (1 ≤ h.rho) else decide (h.rho = 0) := rfl
 have hone : ∀ (N : Nat) (W : World), N = W.heap.size → RdI (W.alloc (.cells #[.int .i64 h.rho] 3)) 1 (some ⟨N, 0, none⟩) [h.rho] := fun N W e => rd_one e hrho
 have hl0 : decide (∀ x ∈ [h.rho], 0 ≤ x) = decide (0 ≤ h.rho) := by simp
 have hl1 : decide (∀ x ∈ [h.rho], 1 ≤ x) = decide (1 ≤ h.rho) := by simp
 have HONE := Lib.hid hone; have HL0 := Lib.hid hl0; have HL1 := Lib.hid hl1
 clear hT hrho hone hl0 hl1
 by_cases h1 : h.h.k = 3 ∨ h.h.k = 6 ∨ h.h.k = 11 ∨ h.h.k = 13 ∨ h.h.k = 18
 ·rw [if_pos h1] at hr
  have HR := Lib.hid hr
  clear hr
  rcases h1 with hk | hk | hk | hk | hk
  all_goals
   have HK := Lib.hid hk
   clear hk
   go_enter Tryz.func61, Tryz.ntmps61
   go_upto_region 1 with (fail)
   obtain ⟨W0, hW0⟩ : ∃ W0, W0 = w.alloc (.cells #[.int .u8 h.h.k, .int .u8 h.h.op, .int .i64 h.h.pl, .int .i64 h.h.n, .string h.h.name, .string h.h.arg, .string h.h.exn, .int .i64 h.rho, .slice v.ra h.rhos.length v.rc, .slice v.ea h.e.length v.ec, .int .u8 h.ty.h.k, .int .i64 h.ty.h.r, .slice v.tea h.ty.h.e.length v.tec, .slice v.tka h.ty.ks.length v.tkc, .int .u8 h.re.h.k, .int .i64 h.re.h.r, .slice v.sea h.re.h.e.length v.sec, .slice v.ska h.re.ks.length v.skc, .slice v.ka l v.kc] 31) := ⟨_, rfl⟩
   have hbx : Box W0 w.heap.size h v l := by rw [hW0]; exact box_of (w := w) (h := h) (v := v) (l := l)
   have hb0 : Below w.heap.size w W0 := by rw [hW0]; exact box_new _
   rw [← hW0]
   clear hW0
   generalize hN0 : w.heap.size = N0 at hbx ⊢
   have HB0 := Lib.hid hb0; have HBX := Lib.hid hbx
   obtain ⟨b0, b1, b2, b3, b4, b5, b6, b7, b8, b9, b10, b11, b12, b13, b14, b15, b16, b17, b18⟩ := hbx
   clear hb0 hN0 b1 b2 b3 b4 b5 b6 b8 b9 b10 b11 b12 b13 b14 b15 b16 b17 b18
   rw [HK.out] at b0
   go_wp2_with (fail)
   refine (from_walk (c := 1) (HONE.out _ W0 rfl) (by omega) 0).mono ?_
   rintro e w1 ⟨rfl, hb1⟩
   have HB1 := Lib.hid (HB0.out.trans (((box_new _).trans (hb1.mono (by simp))).mono HB0.out.size))
   clear hb1 b0 b7
   rw [HL0.out]
   go_wp2_with (fail)
   go_ret
   exact ⟨ret_bool HR.out.symm, HB1.out⟩
 ·rw [if_neg h1] at hr
  have k3 : ¬ h.h.k = 3 := fun e => h1 (.inl e)
  have k6 : ¬ h.h.k = 6 := fun e => h1 (.inr (.inl e))
  have k11 : ¬ h.h.k = 11 := fun e => h1 (.inr (.inr (.inl e)))
  have k13 : ¬ h.h.k = 13 := fun e => h1 (.inr (.inr (.inr (.inl e))))
  have k18 : ¬ h.h.k = 18 := fun e => h1 (.inr (.inr (.inr (.inr e))))
  clear h1
  by_cases h2 : h.h.k = 17
  ·rw [if_pos h2] at hr
   have HR := Lib.hid hr; have HK := Lib.hid h2
   clear hr h2 k3 k6 k11 k13 k18
   go_enter Tryz.func61, Tryz.ntmps61
   go_upto_region 1 with (fail)
   obtain ⟨W0, hW0⟩ : ∃ W0, W0 = w.alloc (.cells #[.int .u8 h.h.k, .int .u8 h.h.op, .int .i64 h.h.pl, .int .i64 h.h.n, .string h.h.name, .string h.h.arg, .string h.h.exn, .int .i64 h.rho, .slice v.ra h.rhos.length v.rc, .slice v.ea h.e.length v.ec, .int .u8 h.ty.h.k, .int .i64 h.ty.h.r, .slice v.tea h.ty.h.e.length v.tec, .slice v.tka h.ty.ks.length v.tkc, .int .u8 h.re.h.k, .int .i64 h.re.h.r, .slice v.sea h.re.h.e.length v.sec, .slice v.ska h.re.ks.length v.skc, .slice v.ka l v.kc] 31) := ⟨_, rfl⟩
   have hbx : Box W0 w.heap.size h v l := by rw [hW0]; exact box_of (w := w) (h := h) (v := v) (l := l)
   have hb0 : Below w.heap.size w W0 := by rw [hW0]; exact box_new _
   rw [← hW0]
   clear hW0
   generalize hN0 : w.heap.size = N0 at hbx ⊢
   have HB0 := Lib.hid hb0; have HBX := Lib.hid hbx
   obtain ⟨b0, b1, b2, b3, b4, b5, b6, b7, b8, b9, b10, b11, b12, b13, b14, b15, b16, b17, b18⟩ := hbx
   clear hb0 hN0 b1 b2 b3 b4 b5 b6 b8 b9 b10 b11 b12 b13 b14 b15 b16 b17 b18
   rw [HK.out] at b0
   go_wp2_with (fail)
   refine (from_walk (c := 1) (HONE.out _ W0 rfl) (by omega) 1).mono ?_
   rintro e w1 ⟨rfl, hb1⟩
   have HB1 := Lib.hid (HB0.out.trans (((box_new _).trans (hb1.mono (by simp))).mono HB0.out.size))
   clear hb1 b0 b7
   rw [HL1.out]
   go_wp2_with (fail)
   go_ret
   exact ⟨ret_bool HR.out.symm, HB1.out⟩
  ·rw [if_neg h2] at hr
   have e3 := of_not k3; have e6 := of_not k6; have e11 := of_not k11; have e13 := of_not k13; have e18 := of_not k18; have e17 := of_not h2
   clear k3 k6 k11 k13 k18 h2
   have hd : decide (h.rho = 0) = (h.rho == 0) := by by_cases e : h.rho = 0 <;> simp [e]
   have HR := Lib.hid (hr.trans hd)
   clear hr hd
   go_enter Tryz.func61, Tryz.ntmps61
   go_upto_region 1 with (fail)
   obtain ⟨W0, hW0⟩ : ∃ W0, W0 = w.alloc (.cells #[.int .u8 h.h.k, .int .u8 h.h.op, .int .i64 h.h.pl, .int .i64 h.h.n, .string h.h.name, .string h.h.arg, .string h.h.exn, .int .i64 h.rho, .slice v.ra h.rhos.length v.rc, .slice v.ea h.e.length v.ec, .int .u8 h.ty.h.k, .int .i64 h.ty.h.r, .slice v.tea h.ty.h.e.length v.tec, .slice v.tka h.ty.ks.length v.tkc, .int .u8 h.re.h.k, .int .i64 h.re.h.r, .slice v.sea h.re.h.e.length v.sec, .slice v.ska h.re.ks.length v.skc, .slice v.ka l v.kc] 31) := ⟨_, rfl⟩
   have hbx : Box W0 w.heap.size h v l := by rw [hW0]; exact box_of (w := w) (h := h) (v := v) (l := l)
   have hb0 : Below w.heap.size w W0 := by rw [hW0]; exact box_new _
   rw [← hW0]
   clear hW0
   generalize hN0 : w.heap.size = N0 at hbx ⊢
   have HB0 := Lib.hid hb0; have HBX := Lib.hid hbx
   obtain ⟨b0, b1, b2, b3, b4, b5, b6, b7, b8, b9, b10, b11, b12, b13, b14, b15, b16, b17, b18⟩ := hbx
   clear hb0 hN0 b1 b2 b3 b4 b5 b6 b8 b9 b10 b11 b12 b13 b14 b15 b16 b17 b18
   go_wp2_with (fail)
   go_ret
   exact ⟨ret_bool HR.out.symm, HB0.out⟩

set_option maxRecDepth 10000 in
set_option maxHeartbeats 3200000 in
theorem effFits_walk (t : AT) (h : Hd) (v : V) (l : Nat) (w : World) (hT : AtIs w h v l t) (he : h.e.length ≤ 100000) :
  Calls Tryz.prog 63 #[.agg #[.int .u8 h.h.k, .int .u8 h.h.op, .int .i64 h.h.pl, .int .i64 h.h.n, .string h.h.name, .string h.h.arg, .string h.h.exn, .int .i64 h.rho, .slice v.ra h.rhos.length v.rc, .slice v.ea h.e.length v.ec, .int .u8 h.ty.h.k, .int .i64 h.ty.h.r, .slice v.tea h.ty.h.e.length v.tec, .slice v.tka h.ty.ks.length v.tkc, .int .u8 h.re.h.k, .int .i64 h.re.h.r, .slice v.sea h.re.h.e.length v.sec, .slice v.ska h.re.ks.length v.skc, .slice v.ka l v.kc]] w fun e w' => e = .returned (.bool (effOk h)) ∧ Below w.heap.size w w' := by
 have hr : effOk h = if effK h.h.k = true then decide (h.e = ofA h.e) else decide (h.e.length = 0) := rfl
 have hmay := fun (W : World) (hb : Below w.heap.size w W) => Effect.may_walk (c := v.ec) (hT.ok.eff.below hb).rd he
 have HMAY := Lib.hid hmay
 clear hT hmay
 by_cases h1 : h.h.k = 11 ∨ h.h.k = 13 ∨ h.h.k = 18
 ·rw [if_pos (show effK h.h.k = true from decide_eq_true h1)] at hr
  have HR := Lib.hid hr
  clear hr
  rcases h1 with hk | hk | hk
  all_goals
   have HK := Lib.hid hk
   clear hk
   go_enter Tryz.func63, Tryz.ntmps63
   go_upto_region 1 with (fail)
   obtain ⟨W0, hW0⟩ : ∃ W0, W0 = w.alloc (.cells #[.int .u8 h.h.k, .int .u8 h.h.op, .int .i64 h.h.pl, .int .i64 h.h.n, .string h.h.name, .string h.h.arg, .string h.h.exn, .int .i64 h.rho, .slice v.ra h.rhos.length v.rc, .slice v.ea h.e.length v.ec, .int .u8 h.ty.h.k, .int .i64 h.ty.h.r, .slice v.tea h.ty.h.e.length v.tec, .slice v.tka h.ty.ks.length v.tkc, .int .u8 h.re.h.k, .int .i64 h.re.h.r, .slice v.sea h.re.h.e.length v.sec, .slice v.ska h.re.ks.length v.skc, .slice v.ka l v.kc] 31) := ⟨_, rfl⟩
   have hbx : Box W0 w.heap.size h v l := by rw [hW0]; exact box_of (w := w) (h := h) (v := v) (l := l)
   have hb0 : Below w.heap.size w W0 := by rw [hW0]; exact box_new _
   rw [← hW0]
   clear hW0
   generalize hN0 : w.heap.size = N0 at hbx ⊢
   have HB0 := Lib.hid hb0; have HBX := Lib.hid hbx
   obtain ⟨b0, b1, b2, b3, b4, b5, b6, b7, b8, b9, b10, b11, b12, b13, b14, b15, b16, b17, b18⟩ := hbx
   clear hb0 hN0 b1 b2 b3 b4 b5 b6 b7 b8 b10 b11 b12 b13 b14 b15 b16 b17 b18
   rw [HK.out] at b0
   go_wp2_with (fail)
   refine (HMAY.out W0 HB0.out).mono ?_
   rintro e w1 ⟨rfl, hb1⟩
   have HB1 := Lib.hid (below_then HB0.out hb1 HB0.out.size)
   clear hb1 b0 b9
   generalize decide (h.e = ofA h.e) = X at *
   go_wp2_with (fail)
   go_ret
   exact ⟨ret_bool HR.out.symm, HB1.out⟩
 ·rw [if_neg (by unfold effK; rw [decide_eq_false h1]; exact Bool.false_ne_true)] at hr
  have e11 := of_not (fun e => h1 (.inl e)); have e13 := of_not (fun e => h1 (.inr (.inl e))); have e18 := of_not (fun e => h1 (.inr (.inr e)))
  have hd : decide (h.e.length = 0) = ((h.e.length : Int) == 0) := by
   by_cases e : h.e.length = 0
   ·simp [e]
   ·have : ((h.e.length : Int) == 0) = false := by rw [beq_eq_false_iff_ne]; omega
    rw [this, decide_eq_false e]
  have HR := Lib.hid (hr.trans hd)
  clear hr hd h1
  go_enter Tryz.func63, Tryz.ntmps63
  go_upto_region 1 with (fail)
  obtain ⟨W0, hW0⟩ : ∃ W0, W0 = w.alloc (.cells #[.int .u8 h.h.k, .int .u8 h.h.op, .int .i64 h.h.pl, .int .i64 h.h.n, .string h.h.name, .string h.h.arg, .string h.h.exn, .int .i64 h.rho, .slice v.ra h.rhos.length v.rc, .slice v.ea h.e.length v.ec, .int .u8 h.ty.h.k, .int .i64 h.ty.h.r, .slice v.tea h.ty.h.e.length v.tec, .slice v.tka h.ty.ks.length v.tkc, .int .u8 h.re.h.k, .int .i64 h.re.h.r, .slice v.sea h.re.h.e.length v.sec, .slice v.ska h.re.ks.length v.skc, .slice v.ka l v.kc] 31) := ⟨_, rfl⟩
  have hbx : Box W0 w.heap.size h v l := by rw [hW0]; exact box_of (w := w) (h := h) (v := v) (l := l)
  have hb0 : Below w.heap.size w W0 := by rw [hW0]; exact box_new _
  rw [← hW0]
  clear hW0
  generalize hN0 : w.heap.size = N0 at hbx ⊢
  have HB0 := Lib.hid hb0; have HBX := Lib.hid hbx
  obtain ⟨b0, b1, b2, b3, b4, b5, b6, b7, b8, b9, b10, b11, b12, b13, b14, b15, b16, b17, b18⟩ := hbx
  clear hb0 hN0 b1 b2 b3 b4 b5 b6 b7 b8 b10 b11 b12 b13 b14 b15 b16 b17 b18
  go_wp2_with (fail)
  go_ret
  exact ⟨ret_bool HR.out.symm, HB0.out⟩

theorem allK_rt (B : Rt.Hd → Nat → Bool) (t : Rt.RT) : Rt.allK B [t] = Rt.allT B t := by rw [Rt.allK_cons, Rt.allK_nil, Bool.and_true]
theorem mayK_one (t : Rt.RT) : Rt.mayK [t] = Rt.mayT t := allK_rt _ t
set_option maxRecDepth 10000 in
set_option maxHeartbeats 3200000 in
theorem typeFits_walk (t : AT) (h : Hd) (v : V) (l : Nat) (w : World) (hT : AtIs w h v l t) (he : Rt.allT (Rt.effB 100000) h.ty = true) :
  Calls Tryz.prog 64 #[.agg #[.int .u8 h.h.k, .int .u8 h.h.op, .int .i64 h.h.pl, .int .i64 h.h.n, .string h.h.name, .string h.h.arg, .string h.h.exn, .int .i64 h.rho, .slice v.ra h.rhos.length v.rc, .slice v.ea h.e.length v.ec, .int .u8 h.ty.h.k, .int .i64 h.ty.h.r, .slice v.tea h.ty.h.e.length v.tec, .slice v.tka h.ty.ks.length v.tkc, .int .u8 h.re.h.k, .int .i64 h.re.h.r, .slice v.sea h.re.h.e.length v.sec, .slice v.ska h.re.ks.length v.skc, .slice v.ka l v.kc]] w fun e w' => e = .returned (.bool (typOk h)) ∧ Below w.heap.size w w' := by
 have hr : typOk h = if typK h.h.k = true then Rt.mayT h.ty else plainB h.ty := rfl
 have hty := hT.ok.ty
 have hmay := fun (W : World) (hb : Below w.heap.size w W) (N : Nat) (hN : N = W.heap.size) => Rt.may_walk [h.ty] (some ⟨N, 0, none⟩) 1 1 _ rfl Rt.one_le (Rt.kids_one (hty.below hb) 28 N hN) (by rw [allK_rt]; exact he)
 have hcap := Rt.cap63 hty
 have hnone := fun W => none_walk h.ty v.tea v.tec v.tka v.tkc W hcap.1 hcap.2
 have HMAY := Lib.hid hmay; have HNONE := Lib.hid hnone
 clear hT hmay hnone hcap hty he
 by_cases h1 : h.h.k = 11 ∨ h.h.k = 13 ∨ h.h.k = 15
 ·rw [if_pos (show typK h.h.k = true from decide_eq_true h1), ← mayK_one] at hr
  have HR := Lib.hid hr
  clear hr
  rcases h1 with hk | hk | hk
  all_goals
   have HK := Lib.hid hk
   clear hk
   go_enter Tryz.func64, Tryz.ntmps64
   go_upto_region 1 with (fail)
   obtain ⟨W0, hW0⟩ : ∃ W0, W0 = w.alloc (.cells #[.int .u8 h.h.k, .int .u8 h.h.op, .int .i64 h.h.pl, .int .i64 h.h.n, .string h.h.name, .string h.h.arg, .string h.h.exn, .int .i64 h.rho, .slice v.ra h.rhos.length v.rc, .slice v.ea h.e.length v.ec, .int .u8 h.ty.h.k, .int .i64 h.ty.h.r, .slice v.tea h.ty.h.e.length v.tec, .slice v.tka h.ty.ks.length v.tkc, .int .u8 h.re.h.k, .int .i64 h.re.h.r, .slice v.sea h.re.h.e.length v.sec, .slice v.ska h.re.ks.length v.skc, .slice v.ka l v.kc] 31) := ⟨_, rfl⟩
   have hbx : Box W0 w.heap.size h v l := by rw [hW0]; exact box_of (w := w) (h := h) (v := v) (l := l)
   have hb0 : Below w.heap.size w W0 := by rw [hW0]; exact box_new _
   rw [← hW0]
   clear hW0
   generalize hN0 : w.heap.size = N0 at hbx ⊢
   have HB0 := Lib.hid hb0; have HBX := Lib.hid hbx
   obtain ⟨b0, b1, b2, b3, b4, b5, b6, b7, b8, b9, b10, b11, b12, b13, b14, b15, b16, b17, b18⟩ := hbx
   clear hb0 hN0 b1 b2 b3 b4 b5 b6 b7 b8 b9 b14 b15 b16 b17 b18
   rw [HK.out] at b0
   go_wp2_with (fail)
   refine (HMAY.out W0 HB0.out _ rfl).mono ?_
   rintro e w1 ⟨rfl, hb1⟩
   have HB1 := Lib.hid (HB0.out.trans (((box_new _).trans (hb1.mono (by simp))).mono HB0.out.size))
   clear hb1 b0 b10 b11 b12 b13
   generalize Rt.mayK [h.ty] = X at *
   go_wp2_with (fail)
   go_ret
   exact ⟨ret_bool HR.out.symm, HB1.out⟩
 ·rw [if_neg (by unfold typK; rw [decide_eq_false h1]; exact Bool.false_ne_true)] at hr
  have e11 := of_not (fun e => h1 (.inl e)); have e13 := of_not (fun e => h1 (.inr (.inl e))); have e15 := of_not (fun e => h1 (.inr (.inr e)))
  have HR := Lib.hid hr
  clear hr h1
  go_enter Tryz.func64, Tryz.ntmps64
  go_upto_region 1 with (fail)
  obtain ⟨W0, hW0⟩ : ∃ W0, W0 = w.alloc (.cells #[.int .u8 h.h.k, .int .u8 h.h.op, .int .i64 h.h.pl, .int .i64 h.h.n, .string h.h.name, .string h.h.arg, .string h.h.exn, .int .i64 h.rho, .slice v.ra h.rhos.length v.rc, .slice v.ea h.e.length v.ec, .int .u8 h.ty.h.k, .int .i64 h.ty.h.r, .slice v.tea h.ty.h.e.length v.tec, .slice v.tka h.ty.ks.length v.tkc, .int .u8 h.re.h.k, .int .i64 h.re.h.r, .slice v.sea h.re.h.e.length v.sec, .slice v.ska h.re.ks.length v.skc, .slice v.ka l v.kc] 31) := ⟨_, rfl⟩
  have hbx : Box W0 w.heap.size h v l := by rw [hW0]; exact box_of (w := w) (h := h) (v := v) (l := l)
  have hb0 : Below w.heap.size w W0 := by rw [hW0]; exact box_new _
  rw [← hW0]
  clear hW0
  generalize hN0 : w.heap.size = N0 at hbx ⊢
  have HB0 := Lib.hid hb0; have HBX := Lib.hid hbx
  obtain ⟨b0, b1, b2, b3, b4, b5, b6, b7, b8, b9, b10, b11, b12, b13, b14, b15, b16, b17, b18⟩ := hbx
  clear hb0 hN0 b1 b2 b3 b4 b5 b6 b7 b8 b9 b14 b15 b16 b17 b18
  go_wp2_with (fail)
  refine (HNONE.out W0).mono ?_
  rintro e w1 ⟨rfl, hb1⟩
  have HB1 := Lib.hid (below_then HB0.out hb1 HB0.out.size)
  clear hb1 b0 b10 b11 b12 b13
  generalize plainB h.ty = X at *
  go_wp2_with (fail)
  go_ret
  exact ⟨ret_bool HR.out.symm, HB1.out⟩

set_option maxRecDepth 10000 in
set_option maxHeartbeats 3200000 in
theorem resFits_walk (t : AT) (h : Hd) (v : V) (l : Nat) (w : World) (hT : AtIs w h v l t) (he : Rt.allT (Rt.effB 100000) h.re = true) :
  Calls Tryz.prog 65 #[.agg #[.int .u8 h.h.k, .int .u8 h.h.op, .int .i64 h.h.pl, .int .i64 h.h.n, .string h.h.name, .string h.h.arg, .string h.h.exn, .int .i64 h.rho, .slice v.ra h.rhos.length v.rc, .slice v.ea h.e.length v.ec, .int .u8 h.ty.h.k, .int .i64 h.ty.h.r, .slice v.tea h.ty.h.e.length v.tec, .slice v.tka h.ty.ks.length v.tkc, .int .u8 h.re.h.k, .int .i64 h.re.h.r, .slice v.sea h.re.h.e.length v.sec, .slice v.ska h.re.ks.length v.skc, .slice v.ka l v.kc]] w fun e w' => e = .returned (.bool (resOk h)) ∧ Below w.heap.size w w' := by
 have hr : resOk h = if h.h.k = 13 then Rt.mayT h.re else plainB h.re := rfl
 have hty := hT.ok.re
 have hmay := fun (W : World) (hb : Below w.heap.size w W) (N : Nat) (hN : N = W.heap.size) => Rt.may_walk [h.re] (some ⟨N, 0, none⟩) 1 1 _ rfl Rt.one_le (Rt.kids_one (hty.below hb) 28 N hN) (by rw [allK_rt]; exact he)
 have hcap := Rt.cap63 hty
 have hnone := fun W => none_walk h.re v.sea v.sec v.ska v.skc W hcap.1 hcap.2
 have HMAY := Lib.hid hmay; have HNONE := Lib.hid hnone
 clear hT hmay hnone hcap hty he
 by_cases h1 : h.h.k = 13
 ·rw [if_pos h1, ← mayK_one] at hr
  have HR := Lib.hid hr
  clear hr
  iterate 1
   have HK := Lib.hid h1
   clear h1
   go_enter Tryz.func65, Tryz.ntmps65
   go_upto_region 1 with (fail)
   obtain ⟨W0, hW0⟩ : ∃ W0, W0 = w.alloc (.cells #[.int .u8 h.h.k, .int .u8 h.h.op, .int .i64 h.h.pl, .int .i64 h.h.n, .string h.h.name, .string h.h.arg, .string h.h.exn, .int .i64 h.rho, .slice v.ra h.rhos.length v.rc, .slice v.ea h.e.length v.ec, .int .u8 h.ty.h.k, .int .i64 h.ty.h.r, .slice v.tea h.ty.h.e.length v.tec, .slice v.tka h.ty.ks.length v.tkc, .int .u8 h.re.h.k, .int .i64 h.re.h.r, .slice v.sea h.re.h.e.length v.sec, .slice v.ska h.re.ks.length v.skc, .slice v.ka l v.kc] 31) := ⟨_, rfl⟩
   have hbx : Box W0 w.heap.size h v l := by rw [hW0]; exact box_of (w := w) (h := h) (v := v) (l := l)
   have hb0 : Below w.heap.size w W0 := by rw [hW0]; exact box_new _
   rw [← hW0]
   clear hW0
   generalize hN0 : w.heap.size = N0 at hbx ⊢
   have HB0 := Lib.hid hb0; have HBX := Lib.hid hbx
   obtain ⟨b0, b1, b2, b3, b4, b5, b6, b7, b8, b9, b10, b11, b12, b13, b14, b15, b16, b17, b18⟩ := hbx
   clear hb0 hN0 b1 b2 b3 b4 b5 b6 b7 b8 b9 b10 b11 b12 b13 b18
   rw [HK.out] at b0
   go_wp2_with (fail)
   refine (HMAY.out W0 HB0.out _ rfl).mono ?_
   rintro e w1 ⟨rfl, hb1⟩
   have HB1 := Lib.hid (HB0.out.trans (((box_new _).trans (hb1.mono (by simp))).mono HB0.out.size))
   clear hb1 b0 b14 b15 b16 b17
   generalize Rt.mayK [h.re] = X at *
   go_wp2_with (fail)
   go_ret
   exact ⟨ret_bool HR.out.symm, HB1.out⟩
 ·rw [if_neg h1] at hr
  have e13 := of_not h1
  have HR := Lib.hid hr
  clear hr h1
  go_enter Tryz.func65, Tryz.ntmps65
  go_upto_region 1 with (fail)
  obtain ⟨W0, hW0⟩ : ∃ W0, W0 = w.alloc (.cells #[.int .u8 h.h.k, .int .u8 h.h.op, .int .i64 h.h.pl, .int .i64 h.h.n, .string h.h.name, .string h.h.arg, .string h.h.exn, .int .i64 h.rho, .slice v.ra h.rhos.length v.rc, .slice v.ea h.e.length v.ec, .int .u8 h.ty.h.k, .int .i64 h.ty.h.r, .slice v.tea h.ty.h.e.length v.tec, .slice v.tka h.ty.ks.length v.tkc, .int .u8 h.re.h.k, .int .i64 h.re.h.r, .slice v.sea h.re.h.e.length v.sec, .slice v.ska h.re.ks.length v.skc, .slice v.ka l v.kc] 31) := ⟨_, rfl⟩
  have hbx : Box W0 w.heap.size h v l := by rw [hW0]; exact box_of (w := w) (h := h) (v := v) (l := l)
  have hb0 : Below w.heap.size w W0 := by rw [hW0]; exact box_new _
  rw [← hW0]
  clear hW0
  generalize hN0 : w.heap.size = N0 at hbx ⊢
  have HB0 := Lib.hid hb0; have HBX := Lib.hid hbx
  obtain ⟨b0, b1, b2, b3, b4, b5, b6, b7, b8, b9, b10, b11, b12, b13, b14, b15, b16, b17, b18⟩ := hbx
  clear hb0 hN0 b1 b2 b3 b4 b5 b6 b7 b8 b9 b10 b11 b12 b13 b18
  go_wp2_with (fail)
  refine (HNONE.out W0).mono ?_
  rintro e w1 ⟨rfl, hb1⟩
  have HB1 := Lib.hid (below_then HB0.out hb1 HB0.out.size)
  clear hb1 b0 b14 b15 b16 b17
  generalize plainB h.re = X at *
  go_wp2_with (fail)
  go_ret
  exact ⟨ret_bool HR.out.symm, HB1.out⟩
end Aterm
end Go.Proofs.YtkfkpjngiffamaaGreatDoor
namespace Go.Proofs.YtkfkpjngiffamaaGreatDoor
open Go.RowKit Go.Maps Go.ChangeMaps Go.MapKept
set_option linter.unusedVariables false
set_option linter.unusedSimpArgs false
namespace Aterm
open Effect (RdI nget nget_at nget_mem)
open Rt (box_new box_at below_then)

set_option maxRecDepth 10000 in
theorem binds_walk (t : AT) (h : Hd) (v : V) (l : Nat) (w0 w : World) (hT : AtIs w0 h v l t) (hb00 : Below w0.heap.size w0 w) :
  Calls Tryz.prog 103 #[.agg #[.int .u8 h.h.k, .int .u8 h.h.op, .int .i64 h.h.pl, .int .i64 h.h.n, .string h.h.name, .string h.h.arg, .string h.h.exn, .int .i64 h.rho, .slice v.ra h.rhos.length v.rc, .slice v.ea h.e.length v.ec, .int .u8 h.ty.h.k, .int .i64 h.ty.h.r, .slice v.tea h.ty.h.e.length v.tec, .slice v.tka h.ty.ks.length v.tkc, .int .u8 h.re.h.k, .int .i64 h.re.h.r, .slice v.sea h.re.h.e.length v.sec, .slice v.ska h.re.ks.length v.skc, .slice v.ka l v.kc]] w fun e w' => ∃ p n c, e = .returned (.slice p n c) ∧ n = (ownH h).length ∧ RdI w' n p (ownH h) ∧ Below w.heap.size w w' ∧ (RdI w0 n p (ownH h) ∨ ∀ b o, p = some ⟨b, o, none⟩ → w.heap.size ≤ b ∧ b < w'.heap.size) := by
 have hrho := hT.ok.rho
 have hrd0 := hT.ok.rhos
 have hrd := hrd0.below hb00
 have HD0 := Lib.hid hrd0
 clear hrd0 hb00
 have hk : ownH h = if h.h.k = 17 then [h.rho] else if h.h.k = 13 then h.rhos else [] := rfl
 have HR := Lib.hid hrho; have HD := Lib.hid hrd
 clear hT hrho hrd
 by_cases h1 : h.h.k = 17
 ·rw [if_pos h1] at hk
  rw [hk]
  have HK := Lib.hid h1
  clear hk h1
  go_enter Tryz.func103, Tryz.ntmps103
  go_upto_region 1 with (fail)
  obtain ⟨W0, hW0⟩ : ∃ W0, W0 = w.alloc (.cells #[.int .u8 h.h.k, .int .u8 h.h.op, .int .i64 h.h.pl, .int .i64 h.h.n, .string h.h.name, .string h.h.arg, .string h.h.exn, .int .i64 h.rho, .slice v.ra h.rhos.length v.rc, .slice v.ea h.e.length v.ec, .int .u8 h.ty.h.k, .int .i64 h.ty.h.r, .slice v.tea h.ty.h.e.length v.tec, .slice v.tka h.ty.ks.length v.tkc, .int .u8 h.re.h.k, .int .i64 h.re.h.r, .slice v.sea h.re.h.e.length v.sec, .slice v.ska h.re.ks.length v.skc, .slice v.ka l v.kc] 31) := ⟨_, rfl⟩
  have hbx : Box W0 w.heap.size h v l := by rw [hW0]; exact box_of (w := w) (h := h) (v := v) (l := l)
  have hb0 : Below w.heap.size w W0 := by rw [hW0]; exact box_new _
  rw [← hW0]
  clear hW0
  generalize hN0 : w.heap.size = N0 at hbx ⊢
  have HB0 := Lib.hid hb0; have HBX := Lib.hid hbx
  obtain ⟨b0, b1, b2, b3, b4, b5, b6, b7, b8, b9, b10, b11, b12, b13, b14, b15, b16, b17, b18⟩ := hbx
  clear hb0 hN0 b1 b2 b3 b4 b5 b6 b8 b9 b10 b11 b12 b13 b14 b15 b16 b17 b18
  rw [HK.out] at b0
  go_wp2_with (fail)
  go_ret
  exact ⟨_, _, _, rfl, rfl, rd_one rfl HR.out, HB0.out.trans ((box_new _).mono HB0.out.size), .inr (fun b o e => by injection e with e; injection e with e; subst e; exact ⟨HB0.out.size, by simp⟩)⟩
 ·rw [if_neg h1] at hk
  by_cases h2 : h.h.k = 13
  ·rw [if_pos h2] at hk
   rw [hk]
   have HK := Lib.hid h2
   clear hk h1 h2
   go_enter Tryz.func103, Tryz.ntmps103
   go_upto_region 1 with (fail)
   obtain ⟨W0, hW0⟩ : ∃ W0, W0 = w.alloc (.cells #[.int .u8 h.h.k, .int .u8 h.h.op, .int .i64 h.h.pl, .int .i64 h.h.n, .string h.h.name, .string h.h.arg, .string h.h.exn, .int .i64 h.rho, .slice v.ra h.rhos.length v.rc, .slice v.ea h.e.length v.ec, .int .u8 h.ty.h.k, .int .i64 h.ty.h.r, .slice v.tea h.ty.h.e.length v.tec, .slice v.tka h.ty.ks.length v.tkc, .int .u8 h.re.h.k, .int .i64 h.re.h.r, .slice v.sea h.re.h.e.length v.sec, .slice v.ska h.re.ks.length v.skc, .slice v.ka l v.kc] 31) := ⟨_, rfl⟩
   have hbx : Box W0 w.heap.size h v l := by rw [hW0]; exact box_of (w := w) (h := h) (v := v) (l := l)
   have hb0 : Below w.heap.size w W0 := by rw [hW0]; exact box_new _
   rw [← hW0]
   clear hW0
   generalize hN0 : w.heap.size = N0 at hbx ⊢
   have HB0 := Lib.hid hb0; have HBX := Lib.hid hbx
   obtain ⟨b0, b1, b2, b3, b4, b5, b6, b7, b8, b9, b10, b11, b12, b13, b14, b15, b16, b17, b18⟩ := hbx
   clear hb0 hN0 b1 b2 b3 b4 b5 b6 b7 b9 b10 b11 b12 b13 b14 b15 b16 b17 b18
   rw [HK.out] at b0
   go_wp2_with (fail)
   go_ret
   exact ⟨_, _, _, rfl, rfl, HD.out.below HB0.out, HB0.out, .inl HD0.out⟩
  ·rw [if_neg h2] at hk
   rw [hk]
   have H1 := Lib.hid h1; have H2 := Lib.hid h2
   clear hk h1 h2
   go_enter Tryz.func103, Tryz.ntmps103
   go_upto_region 1 with (fail)
   obtain ⟨W0, hW0⟩ : ∃ W0, W0 = w.alloc (.cells #[.int .u8 h.h.k, .int .u8 h.h.op, .int .i64 h.h.pl, .int .i64 h.h.n, .string h.h.name, .string h.h.arg, .string h.h.exn, .int .i64 h.rho, .slice v.ra h.rhos.length v.rc, .slice v.ea h.e.length v.ec, .int .u8 h.ty.h.k, .int .i64 h.ty.h.r, .slice v.tea h.ty.h.e.length v.tec, .slice v.tka h.ty.ks.length v.tkc, .int .u8 h.re.h.k, .int .i64 h.re.h.r, .slice v.sea h.re.h.e.length v.sec, .slice v.ska h.re.ks.length v.skc, .slice v.ka l v.kc] 31) := ⟨_, rfl⟩
   have hbx : Box W0 w.heap.size h v l := by rw [hW0]; exact box_of (w := w) (h := h) (v := v) (l := l)
   have hb0 : Below w.heap.size w W0 := by rw [hW0]; exact box_new _
   rw [← hW0]
   clear hW0
   generalize hN0 : w.heap.size = N0 at hbx ⊢
   have HB0 := Lib.hid hb0; have HBX := Lib.hid hbx
   obtain ⟨b0, b1, b2, b3, b4, b5, b6, b7, b8, b9, b10, b11, b12, b13, b14, b15, b16, b17, b18⟩ := hbx
   clear hb0 hN0 b1 b2 b3 b4 b5 b6 b7 b8 b9 b10 b11 b12 b13 b14 b15 b16 b17 b18
   have h1 := H1.out; have h2 := H2.out
   go_wp2_with (fail)
   go_ret
   exact ⟨_, _, _, rfl, rfl, rd_nil _ _, HB0.out, .inl (rd_nil _ _)⟩

def tokR (v : Value) : Option (DataW Value × List MemPlace) := some (.held v, [])
theorem tok_inj {v u : Value} {ps : List MemPlace} (h : tokR v = some (.held u, ps)) : v = u := by
 unfold tokR at h
 simp at h
 exact h.1
def I64 (x : Int) : Prop := -9223372036854775808 ≤ x ∧ x ≤ 9223372036854775807
theorem intKeyed : Keyed Tryz.prog 3 := int_keyed Tryz.underlying3
theorem key_of {x : Int} (h : I64 x) : keyOf Tryz.prog 3 (.int .i64 x) = some (Lit.int .i64 x) := keyOf_int_mk Tryz.underlying3 (WalkArith.wf_i64 h)
def SetAt (w : World) (b : Nat) (met : List Int) : Prop :=
 ∃ (n : Nat) (D : DataW Value), w.ownsMap Tryz.prog 3 tokR b n D ∧ n ≤ met.length ∧ ∀ x, I64 x → ∀ z, D.atKey (.int .i64 x) z = if x ∈ met then .held (.bool true) else z
theorem SetAt.new (w : World) : SetAt (w.alloc (.map #[] 0)) w.heap.size [] := ⟨0, _, World.ownsMap_made w _ _ _, Nat.le_refl _, fun x _ z => rfl⟩
theorem SetAt.lt {w : World} {b : Nat} {met : List Int} (h : SetAt w b met) : b < w.heap.size := by obtain ⟨_, D, h, _⟩ := h; exact h.lt
theorem SetAt.of_block {w w' : World} {b : Nat} {met : List Int} (h : SetAt w b met) (hb : w'.heap[b]? = w.heap[b]?) : SetAt w' b met := by
 obtain ⟨n, D, ⟨es, clock, h1, h2⟩, k⟩ := h
 exact ⟨n, D, ⟨es, clock, hb.trans h1, h2⟩, k⟩
theorem SetAt.below {w w' : World} {b : Nat} {met : List Int} (h : SetAt w b met) (hb : Below w.heap.size w w') : SetAt w' b met := h.of_block (hb.block b h.lt)
theorem zeroBool (w : World) : (zeroValue 4).run Tryz.prog w = .ok (.bool false) w := by kernel_rfl
theorem SetAt.look {w : World} {b : Nat} {met : List Int} (h : SetAt w b met) {x : Int} (hx : I64 x) :
  (Instr.lookup 138 (.map (some b)) (.int .i64 x) false).run Tryz.prog w = .ok (.bool (met.contains x)) w := by
 obtain ⟨n, D, h, _, k⟩ := h
 obtain ⟨v, ps, hrun, hv⟩ := h.lookup intKeyed Tryz.underlying138 (zeroBool w) (zd := .held (.bool false)) (zp := []) rfl (key_of hx)
 rw [k x hx] at hv
 rw [hrun]
 by_cases hm : x ∈ met
 ·rw [if_pos hm] at hv; rw [tok_inj hv]; simp [hm]
 ·rw [if_neg hm] at hv; rw [tok_inj hv]; simp [hm]
theorem SetAt.store {w : World} {b : Nat} {met : List Int} (h : SetAt w b met) (hn : met.length < maxLen) {x : Int} (hx : I64 x) :
  ∃ w', (Instr.mapUpdate 138 (.map (some b)) (.int .i64 x) (.bool true)).run Tryz.prog w = .ok () w' ∧ SetAt w' b (met ++ [x]) ∧ w.grownBy w' (some b) ∧ w'.heap.size = w.heap.size := by
 obtain ⟨n, D, h, hl, k⟩ := h
 obtain ⟨w', hrun, h', ht'⟩ := h.store intKeyed Tryz.underlying138 (Nat.lt_of_le_of_lt hl hn) (d := .held (.bool true)) (ps := []) (key_of hx) rfl
 refine ⟨w', hrun, ⟨n + 1, _, h', by simp; exact hl, fun y hy z => ?_⟩, ht'.grown, ?_⟩
 ·by_cases e : y = x
  ·subst e
   rw [atKey_put_same h.isMap (show WideAt.IsKeyLit (Lit.int .i64 y) from trivial), if_pos (by simp)]
  ·rw [atKey_put_other, k y hy z]
   ·simp [e]
   ·intro he
    exact e (Lit.int.inj he).2
 ·obtain ⟨es, clock, es', clock', _, rfl⟩ := ht'
  simp [setBlock]
set_option maxRecDepth 100000 in
theorem wpList_meet {w : World} {ops : Array Oper} {rest : List Oper} {a : Act} {Q : Exit → Act → World → Prop} {ps : String} {ty : TypeId} {af : Array Edge} {m x v : Operand} (b : Nat) (met : List Int) (y : Int)
  (hm : a.eval m = .map (some b)) (hx : a.eval x = .int .i64 y) (hv : a.eval v = .bool true) (h : SetAt w b met) (hn : met.length < maxLen) (hi : I64 y)
  (hK : ∀ w', SetAt w' b (met ++ [y]) → w.grownBy w' (some b) → w'.heap.size = w.heap.size → wpList Tryz.prog ops Q rest a w') :
  wpList Tryz.prog ops Q ({ dst := none, op := .mapUpdate 138 m x v, type := ty, pos := ps, after := af, guard := none } :: rest) a w := by
 refine wpList_plain rfl fun K' hK' => ?_
 obtain ⟨w', hrun, r1, r2, r3⟩ := h.store hn hi
 unfold Oper.wp
 clear h hn hi
 simp [execOp, hm, hx, hv, hrun, Result.andThen]
 exact hK' _ _ (hK w' r1 r2 r3)
end Aterm
end Go.Proofs.YtkfkpjngiffamaaGreatDoor
namespace Go.Proofs.YtkfkpjngiffamaaGreatDoor
open Go.RowKit
set_option linter.unusedVariables false
set_option linter.unusedSimpArgs false
namespace Aterm
open Rt (box_new box_at below_then)
open Effect (ret_bool ret_i64 lt_of_block heap_alloc_new)

set_option maxRecDepth 10000 in
set_option maxHeartbeats 6400000 in
theorem allApart_walk {σ : Type} (B : σ → AT → Bool) (S : σ → AT → σ) (C : Hd → Nat → Bool) (w0 : World) (P : Nat → Option Obj → Prop) (K0 K1 : Nat) (I : Nat → σ → World → Prop) (hI : Goes w0 P I) (hC : Steps 102 [.pointer (some ⟨K0, 0, none⟩), .pointer (some ⟨K1, 0, none⟩)] B S C w0 P I) :
  ∀ (m : Nat) (ts : List AT) (p : Option Addr) (l d r : Nat) (s : σ) (w : World), wts ts ≤ m → ts.length = l → l ≤ maxLen → (∀ W, Tch P w W → RowS w0 W p ts) → Below w0.heap.size w0 w → allK C ts = true → I (r + wts ts) s w →
  Calls Tryz.prog 43 #[.func (.func 102) #[] #[.pointer (some ⟨K0, 0, none⟩), .pointer (some ⟨K1, 0, none⟩)], .slice p l d] w (FoEnd P (I r) (foK B S ts s) w) := by
 have GI := Lib.hid hI; have GC := Lib.hid hC
 clear hI hC
 intro m
 induction m using Nat.strongRecOn with
 | _ m ih =>
  intro ts p l d r s w hm hl hlm hk hb00 hcc hi
  unfold maxLen at hlm
  have HM := Lib.hid hm; have HL := Lib.hid hl; have HK := Lib.hid hk; have HI := Lib.hid hi; have IH := Lib.hid ih; have HB00 := Lib.hid hb00; have HCC := Lib.hid hcc
  clear hm hl hk hi ih hb00 hcc
  go_enter Tryz.func43, Tryz.ntmps43
  go_wp2_with (fail)
  go_loopw [6, 9] (fun _ i wr => ∃ (j : Nat) (u : σ), j ≤ l ∧ i = .int .i64 j ∧ Hid (foK B S ts s = foK B S (ts.drop j) u) ∧ Hid (I (r + wts (ts.drop j)) u wr) ∧ Hid (Tch P w wr)) (fun _ i _ => l - (intOf i).toNat)
  case atStart => exact ⟨0, s, Nat.zero_le _, rfl, Lib.hid (by rw [List.drop_zero]), Lib.hid (by rw [List.drop_zero]; exact HI.out), Lib.hid (Tch.refl _)⟩
  case round =>
   obtain ⟨j, u, hj, rfl, HF, HJ, HS⟩ := hrel
   by_cases hlt : j < l
   ·have hjk : j < ts.length := by rw [HL.out]; exact hlt
    obtain ⟨b, o, v, rfl, hkid, hrg⟩ := HK.out wr HS.out j hjk
    have hbr : Below w0.heap.size w0 wr := HS.out.below GI.out.low HB00.out (Nat.le_refl _)
    have hcj := allK_get _ hjk HCC.out
    rw [allT_eq, Bool.and_eq_true] at hcj
    have hwd := wts_drop' ts j hjk
    have hwm : wts (tget ts j).ks < wts ts := by have h1 := wts_get hjk; have h2 := wt_ks (tget ts j); omega
    have hin : I ((r + wts (ts.drop (j + 1))) + wts (tget ts j).ks + 1) u wr := GI.out.less _ _ _ _ HJ.out (by omega)
    have hnew := GI.out.new _ _ _ HJ.out
    have HJK := Lib.hid hjk; have HKID := Lib.hid hkid; have HWM := Lib.hid hwm; have HIN := Lib.hid hin; have HRG := Lib.hid hrg; have HBR := Lib.hid hbr; have HCJ := Lib.hid hcj; have HNEW := Lib.hid hnew
    clear hjk hkid hwd hwm hin hrg hbr hcj hnew
    go_upto_region 4 with (first | refine at_load rfl _ rfl b (o + j * 19) rfl HRG.out ?_ | refine at_store rfl _ _ rfl _ rfl (tget ts j).h v (tget ts j).ks.length rfl rfl ?_)
    obtain ⟨W0, hW0⟩ : ∃ W0, W0 = wr.alloc (.cells #[.int .u8 (tget ts j).h.h.k, .int .u8 (tget ts j).h.h.op, .int .i64 (tget ts j).h.h.pl, .int .i64 (tget ts j).h.h.n, .string (tget ts j).h.h.name, .string (tget ts j).h.h.arg, .string (tget ts j).h.h.exn, .int .i64 (tget ts j).h.rho, .slice v.ra (tget ts j).h.rhos.length v.rc, .slice v.ea (tget ts j).h.e.length v.ec, .int .u8 (tget ts j).h.ty.h.k, .int .i64 (tget ts j).h.ty.h.r, .slice v.tea (tget ts j).h.ty.h.e.length v.tec, .slice v.tka (tget ts j).h.ty.ks.length v.tkc, .int .u8 (tget ts j).h.re.h.k, .int .i64 (tget ts j).h.re.h.r, .slice v.sea (tget ts j).h.re.h.e.length v.sec, .slice v.ska (tget ts j).h.re.ks.length v.skc, .slice v.ka (tget ts j).ks.length v.kc] 31) := ⟨_, rfl⟩
    have hbx : Box W0 wr.heap.size (tget ts j).h v (tget ts j).ks.length := by rw [hW0]; exact box_of (w := wr) (h := (tget ts j).h) (v := v) (l := (tget ts j).ks.length)
    have hb0 : Below wr.heap.size wr W0 := by rw [hW0]; exact box_new _
    have hnp : ¬ P wr.heap.size W0.heap[wr.heap.size]? := by
     rw [hW0, heap_alloc_new]
     exact HNEW.out _ _
    rw [← hW0]
    clear hW0
    have HSA := Lib.hid (HS.out.trans (Tch.of_below hb0))
    have HST := Lib.hid (GI.out.keep _ _ _ _ HIN.out hb0); have HBR0 := Lib.hid (below_then HBR.out hb0 HBR.out.size)
    generalize hN0 : wr.heap.size = N0 at hbx hnp ⊢
    have HNP := Lib.hid hnp; have HBX := Lib.hid hbx; have HRB := Lib.hid hbx.range
    clear hb0 hN0 hbx hnp
    go_wp2_with (refine at_load rfl _ rfl N0 0 rfl HRB.out ?_)
    refine (GC.out _ _ _ (tget ts j) (tget ts j).h v (tget ts j).ks.length HST.out HKID.out HCJ.out.1 HBR0.out).mono ?_
    rintro e w1 ⟨rfl, hi1, hs1⟩
    obtain ⟨b0, b1, b2, b3, b4, b5, b6, b7, b8, b9, b10, b11, b12, b13, b14, b15, b16, b17, b18⟩ := hs1.box HBX.out HNP.out
    clear b0 b1 b2 b3 b4 b5 b6 b7 b8 b9 b10 b11 b12 b13 b14 b15 b16 b17
    have HI1 := Lib.hid hi1
    have HS1 := Lib.hid (HSA.out.trans hs1)
    clear hi1 hs1
    cases hb : B u (tget ts j)
    ·have hno := foK_no B S HJK.out hb
     have hi2 := GI.out.less _ r _ _ HI1.out (by omega)
     have HNO := Lib.hid hno; have HB := Lib.hid hb; have HI2 := Lib.hid hi2
     clear hno hb hi2
     go_wp2_with (fail)
     go_ret
     exact ⟨ret_bool (by rw [HF.out, HNO.out]), by rw [HF.out, HNO.out]; exact HI2.out, HS1.out⟩
    ·have HB := Lib.hid hb
     clear hb
     go_wp2_with (fail)
     refine (IH.out (wts (tget ts j).ks) (by have := HWM.out; have := HM.out; omega) (tget ts j).ks v.ka _ v.kc (r + wts (ts.drop (j + 1))) _ _ (Nat.le_refl _) rfl (Nat.le_trans HKID.out.cap.1 HKID.out.cap.2) (fun W hW => rowS_kids HKID.out.kids ((HS1.out.trans hW).below GI.out.low HB00.out (Nat.le_refl _))) (HS1.out.below GI.out.low HB00.out (Nat.le_refl _)) HCJ.out.2 HI1.out).mono ?_
     rintro e w2 ⟨rfl, hi3, hs3⟩
     have HI3 := Lib.hid hi3
     have HS3 := Lib.hid (HS1.out.trans hs3)
     clear hi3 hs3 b18
     cases hk : (foK B S (tget ts j).ks (S u (tget ts j))).1
     ·have hno := foK_kno B S HJK.out HB.out hk
      have hi4 := GI.out.less _ r _ _ HI3.out (by omega)
      have HNO := Lib.hid hno; have HKB := Lib.hid hk; have HI4 := Lib.hid hi4
      clear hno hk hi4
      go_wp2_with (fail)
      go_ret
      exact ⟨ret_bool (by rw [HF.out, HNO.out]), by rw [HF.out, HNO.out]; exact HI4.out, HS3.out⟩
     ·have hyes := foK_yes B S HJK.out HB.out hk
      have HYES := Lib.hid hyes; have HKB := Lib.hid hk
      clear hyes hk
      go_wp2_with (fail)
      go_roundw
      case rel => exact ⟨j + 1, _, by omega, by go_num, Lib.hid (HF.out.trans HYES.out), HI3, HS3⟩
      case measure => simp [intOf]; omega
   ·obtain rfl : j = l := by omega
    have hr := HF.out
    have hi := HJ.out
    rw [List.drop_eq_nil_of_le (by rw [HL.out]; exact Nat.le_refl _)] at hr hi
    rw [foK_nil] at hr
    rw [wts_nil] at hi
    have HR := Lib.hid hr; have HI2 := Lib.hid hi
    clear hr hi
    go_wp2_with (fail)
    go_ret
    exact ⟨ret_bool (by rw [HR.out]), by rw [HR.out]; exact HI2.out, HS.out⟩
end Aterm
end Go.Proofs.YtkfkpjngiffamaaGreatDoor
