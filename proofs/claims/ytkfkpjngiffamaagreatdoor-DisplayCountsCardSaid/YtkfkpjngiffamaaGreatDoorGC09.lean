import Derived.Test.YtkfkpjngiffamaaGreatDoorGC08
import Derived.OwnWalk
import Derived.Laws.AppendOwn
import Derived.Test.YtkfkpjngiffamaaGreatDoorGC06
import Derived.Test.YtkfkpjngiffamaaGreatDoorGC00
import Derived.Test.YtkfkpjngiffamaaGreatDoorGC01
import Derived.Test.YtkfkpjngiffamaaGreatDoorGC04
import Derived.Lib.AppendIntMem
import Derived.Lib.LaidTab
import Derived.Lib.SmallJoins
import Derived.Laws.BytesArg
import Derived.LoopTactic
namespace Go.Proofs.YtkfkpjngiffamaaGreatDoor
open Go.RowKit
set_option linter.unusedVariables false
set_option linter.unusedSimpArgs false
namespace Aterm
open Rt (box_new box_at below_then)

def Flat (w : World) : List Value → List AT → Prop
 | xs, [] => xs = []
 | xs, t :: ts => ∃ q ys, xs = acells t.h q t.ks.length ++ ys ∧ AtIs w t.h q t.ks.length t ∧ Flat w ys ts
theorem Flat.append {w : World} : ∀ {ts us : List AT} {xs ys : List Value}, Flat w xs ts → Flat w ys us → Flat w (xs ++ ys) (ts ++ us)
 | [], us, xs, ys, h, k => by
  have : xs = [] := h
  subst this
  exact k
 | t :: ts, us, xs, ys, ⟨q, zs, he, hT, h⟩, k => ⟨q, zs ++ ys, by rw [he, List.append_assoc], hT, h.append k⟩
theorem Flat.len {w : World} : ∀ {ts : List AT} {xs : List Value}, Flat w xs ts → xs.length = ts.length * 19
 | [], xs, h => by
  have : xs = [] := h
  subst this
  rfl
 | t :: ts, xs, ⟨q, zs, he, _, h⟩ => by
  rw [he, List.length_append, h.len, List.length_cons]
  simp [acells]
  omega
theorem Flat.one {w : World} {t : AT} {h : Hd} {q : V} {l : Nat} (hT : AtIs w h q l t) : Flat w (acells h q l) [t] := by
 obtain ⟨h1, h2, h3, h4, h5⟩ := hT
 subst h1 h2
 exact ⟨q, [], by simp, ⟨rfl, rfl, h3, h4, h5⟩, rfl⟩
theorem Flat.cells1 {w : World} : ∀ {ts : List AT} {xs : List Value}, Flat w xs ts → ∀ u ∈ xs, u.oneCell' = true
 | [], xs, h, u, hu => by
  have : xs = [] := h
  subst this
  cases hu
 | t :: ts, xs, ⟨q, zs, he, _, h⟩, u, hu => by
  rw [he] at hu
  rcases List.mem_append.1 hu with hu | hu
  ·simp [acells] at hu
   rcases hu with rfl | rfl | rfl | rfl | rfl | rfl | rfl | rfl | rfl | rfl | rfl | rfl | rfl | rfl | rfl | rfl | rfl | rfl | rfl <;> rfl
  ·exact h.cells1 u hu
theorem Flat.get {w : World} : ∀ {ts : List AT} {xs : List Value}, Flat w xs ts → ∀ i, i < ts.length → ∃ q, AtIs w (tget ts i).h q (tget ts i).ks.length (tget ts i) ∧ ∀ j v, (acells (tget ts i).h q (tget ts i).ks.length)[j]? = some v → xs[i * 19 + j]? = some v
 | [], xs, _, i, hi => by simp at hi
 | t :: ts, xs, ⟨q, zs, he, hT, h⟩, 0, _ => by
  refine ⟨q, hT, fun j v hv => ?_⟩
  rw [he, Nat.zero_mul, Nat.zero_add, List.getElem?_append_left ?_]
  ·exact hv
  ·rcases Nat.lt_or_ge j (acells t.h q t.ks.length).length with h | h
   ·exact h
   ·rw [List.getElem?_eq_none (by exact h)] at hv; cases hv
 | t :: ts, xs, ⟨q, zs, he, hT, h⟩, i + 1, hi => by
  obtain ⟨q', h1, h2⟩ := h.get i (by simpa using hi)
  refine ⟨q', h1, fun j v hv => ?_⟩
  rw [he, List.getElem?_append_right (by simp [acells]; omega)]
  have e : (i + 1) * 19 + j - (acells t.h q t.ks.length).length = i * 19 + j := by simp [acells]; omega
  rw [e]
  exact h2 j v hv
theorem Flat.stay {w W : World} (hb : Below w.heap.size w W) : ∀ {ts : List AT} {xs : List Value}, Flat w xs ts → Flat W xs ts
 | [], xs, h => h
 | t :: ts, xs, ⟨q, zs, he, hT, h⟩ => ⟨q, zs, he, hT.below hb, h.stay hb⟩
theorem infoAt : (Tryz.prog.info? 31).map (fun i => (i.zero, i.size, i.bytes)) = some (some (.agg #[.int .u8 0, .int .u8 0, .int .i64 0, .int .i64 0, .string ⟨#[]⟩, .string ⟨#[]⟩, .string ⟨#[]⟩, .int .i64 0, .slice none 0 0, .slice none 0 0, .int .u8 0, .int .i64 0, .slice none 0 0, .slice none 0 0, .int .u8 0, .int .i64 0, .slice none 0 0, .slice none 0 0, .slice none 0 0]), 19, 280) := by kernel_rfl
theorem own_below {w W : World} {B e size n : Nat} {v : Value} {xs : List Value} (h : w.ownsRow B e size v n xs) (hb : Below w.heap.size w W) : W.ownsRow B e size v n xs :=
 h.kept (row := none) ⟨hb.os, hb.tape, hb.output, hb.size, fun q hq _ => hb.block q hq⟩ (by cases v.ownBlock <;> simp)
theorem range_below {w W : World} {b o : Nat} {cs : List Value} (h : w.rangeAt b o cs) (hb : Below w.heap.size w W) : W.rangeAt b o cs :=
 fun j v hv => (hb.cell (p := ⟨b, o + j, none⟩) (World.block_lt_of_cell? w _ (h j v hv))).trans (h j v hv)

set_option maxRecDepth 10000 in
set_option maxHeartbeats 6400000 in
theorem refAll_walk : ∀ (m : Nat) (t : AT) (h : Hd) (v : V) (l : Nat) (w0 w : World), wt t ≤ m → wt t ≤ 1000000 → AtIs w0 h v l t → Below w0.heap.size w0 w →
  Calls Tryz.prog 16 #[.agg #[.int .u8 h.h.k, .int .u8 h.h.op, .int .i64 h.h.pl, .int .i64 h.h.n, .string h.h.name, .string h.h.arg, .string h.h.exn, .int .i64 h.rho, .slice v.ra h.rhos.length v.rc, .slice v.ea h.e.length v.ec, .int .u8 h.ty.h.k, .int .i64 h.ty.h.r, .slice v.tea h.ty.h.e.length v.tec, .slice v.tka h.ty.ks.length v.tkc, .int .u8 h.re.h.k, .int .i64 h.re.h.r, .slice v.sea h.re.h.e.length v.sec, .slice v.ska h.re.ks.length v.skc, .slice v.ka l v.kc]] w fun e w' =>
   ∃ g c' xs, e = .returned (.slice (some ⟨g, 0, none⟩) (wt t) c') ∧ w'.ownsRow w.heap.size 31 19 (.slice (some ⟨g, 0, none⟩) (wt t) c') (wt t) xs ∧ Flat w0 xs (flatT t) ∧ Below w.heap.size w w' := by
 intro m
 induction m with
 | zero => intro t h v l w0 w hm; have := wt_pos t; omega
 | succ m ih =>
  intro t h v l w0 w hm hsz hT hb00
  obtain ⟨i0, hi, hz0, hz1, hz2⟩ := info_parts infoAt
  have HI := Lib.hid hi; have HZ0 := Lib.hid hz0; have HZ1 := Lib.hid hz1; have HZ2 := Lib.hid hz2
  have hone := Flat.one hT
  have hhd := hT.head
  have hlc := (capA hT).1
  have IH := Lib.hid ih; have HT := Lib.hid hT; have HM := Lib.hid hm; have HSZ := Lib.hid hsz; have HB00 := Lib.hid hb00; have HONE := Lib.hid hone; have HHD := Lib.hid hhd
  clear ih hT hm hsz hb00 hi hz0 hz1 hz2 hone hhd
  go_enter Tryz.func16, Tryz.ntmps16
  go_upto_region 1 with (fail)
  obtain ⟨W0, hW0⟩ : ∃ W0, W0 = w.alloc (.cells #[.int .u8 h.h.k, .int .u8 h.h.op, .int .i64 h.h.pl, .int .i64 h.h.n, .string h.h.name, .string h.h.arg, .string h.h.exn, .int .i64 h.rho, .slice v.ra h.rhos.length v.rc, .slice v.ea h.e.length v.ec, .int .u8 h.ty.h.k, .int .i64 h.ty.h.r, .slice v.tea h.ty.h.e.length v.tec, .slice v.tka h.ty.ks.length v.tkc, .int .u8 h.re.h.k, .int .i64 h.re.h.r, .slice v.sea h.re.h.e.length v.sec, .slice v.ska h.re.ks.length v.skc, .slice v.ka l v.kc] 31) := ⟨_, rfl⟩
  have hbx : Box W0 w.heap.size h v l := by rw [hW0]; exact box_of (w := w) (h := h) (v := v) (l := l)
  have hb0 : Below w.heap.size w W0 := by rw [hW0]; exact box_new _
  rw [← hW0]
  clear hW0
  generalize hN0 : w.heap.size = N0 at hbx ⊢
  have HB0 := Lib.hid hb0; have HBX := Lib.hid hbx; have HRG := Lib.hid hbx.range
  obtain ⟨b0, b1, b2, b3, b4, b5, b6, b7, b8, b9, b10, b11, b12, b13, b14, b15, b16, b17, b18⟩ := hbx
  clear hb0 hN0 b0 b1 b2 b3 b4 b5 b6 b7 b8 b9 b10 b11 b12 b13 b14 b15 b16 b17
  go_upto_region 2 with (refine at_load rfl _ rfl N0 0 rfl HRG.out ?_)
  have hrow := World.ownsRow_lit (base := W0.heap.size) (e := 31) (size := 19) W0 #[.int .u8 h.h.k, .int .u8 h.h.op, .int .i64 h.h.pl, .int .i64 h.h.n, .string h.h.name, .string h.h.arg, .string h.h.exn, .int .i64 h.rho, .slice v.ra h.rhos.length v.rc, .slice v.ea h.e.length v.ec, .int .u8 h.ty.h.k, .int .i64 h.ty.h.r, .slice v.tea h.ty.h.e.length v.tec, .slice v.tka h.ty.ks.length v.tkc, .int .u8 h.re.h.k, .int .i64 h.re.h.r, .slice v.sea h.re.h.e.length v.sec, .slice v.ska h.re.ks.length v.skc, .slice v.ka l v.kc] 1 (by omega) (by unfold maxLen; omega) rfl
  obtain ⟨W1, hW1⟩ : ∃ W1, W1 = W0.alloc (.cells #[.int .u8 h.h.k, .int .u8 h.h.op, .int .i64 h.h.pl, .int .i64 h.h.n, .string h.h.name, .string h.h.arg, .string h.h.exn, .int .i64 h.rho, .slice v.ra h.rhos.length v.rc, .slice v.ea h.e.length v.ec, .int .u8 h.ty.h.k, .int .i64 h.ty.h.r, .slice v.tea h.ty.h.e.length v.tec, .slice v.tka h.ty.ks.length v.tkc, .int .u8 h.re.h.k, .int .i64 h.re.h.r, .slice v.sea h.re.h.e.length v.sec, .slice v.ska h.re.ks.length v.skc, .slice v.ka l v.kc] 31) := ⟨_, rfl⟩
  have hb1 : Below W0.heap.size W0 W1 := by rw [hW1]; exact box_new _
  rw [← hW1] at hrow ⊢
  clear hW1
  have c18 := (hb1.cell (p := ⟨N0, 18, none⟩) (World.block_lt_of_cell? W0 _ b18)).trans b18
  have HB1 := Lib.hid hb1; have HROW := Lib.hid hrow
  clear hb1 hrow
  go_wp2_with (fail)
  go_loopw [3, 10] (fun u i wr => ∃ (j : Nat) (xs : List Value), j ≤ l ∧ i = .int .i64 j ∧ Hid (wr.ownsRow W0.heap.size 31 19 u (1 + wts (t.ks.take j)) xs) ∧ Hid (Flat w0 xs (t :: flatK (t.ks.take j))) ∧
   Hid (Below W0.heap.size W0 wr)) (fun _ i _ => l - (intOf i).toNat)
  case atStart =>
   refine ⟨0, _, Nat.zero_le _, rfl, HROW, Lib.hid ?_, HB1⟩
   rw [List.take_zero, flatK_nil]
   exact HONE.out
  case round =>
   clear b18 c18
   obtain ⟨j, xs, hj, rfl, HOWN, HFL, HW⟩ := hrel
   obtain ⟨b0, b1, b2, b3, b4, b5, b6, b7, b8, b9, b10, b11, b12, b13, b14, b15, b16, b17, b18⟩ := HBX.out.below HW.out
   clear b0 b1 b2 b3 b4 b5 b6 b7 b8 b9 b10 b11 b12 b13 b14 b15 b16 b17
   have HWW := Lib.hid (below_then HB0.out HW.out HB0.out.size)
   by_cases hlt : j < l
   ·have hjk : j < t.ks.length := by rw [HT.out.len]; exact hlt
    have hst := flatK_take t.ks j hjk
    have hsw := wts_take_step t.ks j hjk
    have hB0r := HB00.out.trans (HWW.out.mono HB00.out.size)
    obtain ⟨b, o, v', hp, hkid, hrg0⟩ := HT.out.kids.load j hjk
    rw [hp] at b18
    have hrg := range_below hrg0 hB0r
    have hwk := wts_get hjk
    have hwt := wt_ks t
    have hwl := wts_take_le t.ks (j + 1)
    have HST := Lib.hid hst; have HK := Lib.hid hkid; have HSW := Lib.hid hsw; have HWL := Lib.hid hwl; have HB0R := Lib.hid hB0r
    have HWK := Lib.hid hwk; have HWT := Lib.hid hwt; have HRK := Lib.hid hrg
    clear hst hkid hwk hwt hjk hsw hwl hB0r hrg hrg0 hp
    go_wp2_with (refine at_load rfl _ rfl b (o + j * 19) rfl HRK.out ?_)
    refine (IH.out (tget t.ks j) _ v' _ w0 _ (by have := HM.out; have := HWK.out; have := HWT.out; omega) (by have := HSZ.out; have := HWK.out; have := HWT.out; omega) HK.out HB0R.out).mono ?_
    rintro e w2 ⟨g2, c2, ys, rfl, hown2, hfl2, hb2⟩
    have HW2 := Lib.hid (HW.out.trans (hb2.mono HW.out.size))
    have HO2 := Lib.hid (own_below HOWN.out hb2)
    have HC2 := Lib.hid (hown2.cells (g := g2) rfl)
    have HL2 := Lib.hid hown2.1
    have HF2 := Lib.hid hfl2
    have HBS := Lib.hid HW2.out.size
    clear hb2 hown2 hfl2 b18
    obtain ⟨X, hX⟩ : ∃ X, X = wt (tget t.ks j) := ⟨_, rfl⟩
    obtain ⟨Y, hY⟩ : ∃ Y, Y = wts (t.ks.take j) := ⟨_, rfl⟩
    have hbound : 1 + Y + X ≤ 1000000 := by
     have h1 := HSW.out; have h2 := HWL.out; have h3 := HWT.out; have h4 := HSZ.out
     omega
    rw [← hX] at HL2 ⊢
    rw [← hY] at HO2
    have HX := Lib.hid hX; have HY := Lib.hid hY; have HBD := Lib.hid hbound
    clear hX hY hbound
    go_wp2_with (at_builtin; refine wpList_append_own _ rfl (.tmp 13) (.tmp 19) 29 rfl W0.heap.size 31 i0 (.agg #[.int .u8 0, .int .u8 0, .int .i64 0, .int .i64 0, .string ⟨#[]⟩, .string ⟨#[]⟩, .string ⟨#[]⟩, .int .i64 0, .slice none 0 0, .slice none 0 0, .int .u8 0, .int .i64 0, .slice none 0 0, .slice none 0 0, .int .u8 0, .int .i64 0, .slice none 0 0, .slice none 0 0, .slice none 0 0]) 19 280 Tryz.underlying29 HI.out HZ0.out HZ1.out HZ2.out rfl (by decide) _ _ _ rfl HO2.out ⟨g2, 0, none⟩ X c2 ys rfl HL2.out HC2.out (Flat.cells1 HF2.out) (by have := HBD.out; unfold maxLen; omega) (by have := HBD.out; omega) (by have := HBS.out; omega) ?_; intro v3 w3 hown3 hgrow3 hnil3; have AFT := Lib.hid (HW2.out.grown hgrow3 HBS.out (fun q hq => (HO2.out.lt q hq).1)); have HO3 := Lib.hid hown3; clear hown3 hgrow3 hnil3)
    go_roundw
    case rel =>
     refine ⟨j + 1, xs ++ ys, by omega, by go_num, Lib.hid ?_, Lib.hid ?_, AFT⟩
     ·rw [HSW.out, ← HX.out, ← HY.out, show 1 + (Y + X) = 1 + Y + X from by omega]; exact HO3.out
     ·rw [HST.out]; exact HFL.out.append HF2.out
    case measure => simp [intOf]; omega
   ·obtain rfl : j = l := by omega
    have hall : t.ks.take j = t.ks := List.take_of_length_le (by rw [HT.out.len]; exact Nat.le_refl _)
    have ho := HOWN.out
    have hf := HFL.out
    rw [hall] at ho hf
    rw [← flatT_eq] at hf
    have hwt := wt_ks t
    rw [show 1 + wts t.ks = wt t from by omega] at ho
    obtain ⟨g, cap, hv⟩ : ∃ g cap, u3 = .slice (some ⟨g, 0, none⟩) (wt t) cap := by
     rcases ho.2 with ⟨_, h0⟩ | ⟨g, cap, _, hv, _⟩
     ·have := wt_pos t; omega
     ·exact ⟨g, cap, hv⟩
    subst hv
    have HO := Lib.hid ho; have HF := Lib.hid hf
    clear ho hf hall hwt
    go_wp2_with (fail)
    go_ret
    refine ⟨g, cap, xs, rfl, ?_, HF.out, HWW.out⟩
    have hsz := HB0.out.size
    exact ⟨HO.out.1, HO.out.2.imp id (fun ⟨g, cap, cur, a, b, r⟩ => ⟨g, cap, cur, a, by omega, r⟩)⟩
end Aterm
end Go.Proofs.YtkfkpjngiffamaaGreatDoor
namespace Go.Proofs.YtkfkpjngiffamaaGreatDoor
open Go.RowKit
set_option linter.unusedVariables false
set_option linter.unusedSimpArgs false
namespace Aterm
open Effect (RdI nget nget_at nget_mem Ixs intsV own_slice)
open Rt (box_new box_at below_then)

theorem rd_one {W : World} {N : Nat} {x : Int} {ty : TypeId} (hN : N = W.heap.size) (hx : -9223372036854775808 ≤ x ∧ x ≤ 9223372036854775807) : RdI (W.alloc (.cells #[.int .i64 x] ty)) 1 (some ⟨N, 0, none⟩) [x] := by
 subst hN
 refine ⟨rfl, .inr ⟨_, 0, rfl, fun i hi => ?_⟩, fun y hy => by rw [List.mem_singleton] at hy; subst hy; exact hx⟩
 have hi0 : i = 0 := by simp at hi; omega
 subst hi0
 rw [World.cell?_alloc_mark]; rfl
theorem rd_nil (W : World) (p : Option Addr) : RdI W 0 p [] := ⟨rfl, .inl rfl, fun x hx => by cases hx⟩

end Aterm
end Go.Proofs.YtkfkpjngiffamaaGreatDoor
namespace Go.Proofs.YtkfkpjngiffamaaGreatDoor
open Go.RowKit
set_option linter.unusedVariables false
set_option linter.unusedSimpArgs false
namespace Aterm
open Effect (nget nget_at nget_mem ret_bool)
open Rt (box_new box_at box4)

structure RdB (w : World) (n : Nat) (p : Option Addr) (l : List Int) : Prop where
 len : l.length = n
 at_ : l = [] ∨ ∃ b o, p = some ⟨b, o, none⟩ ∧ ∀ i, i < l.length → w.cell? ⟨b, o + i, none⟩ = some (.int .u8 (nget l i))
theorem RdB.get {w : World} {n : Nat} {p : Option Addr} {l : List Int} (h : RdB w n p l) (i : Nat) (hi : i < l.length) : ∃ b o, p = some ⟨b, o, none⟩ ∧ w.cell? ⟨b, o + i, none⟩ = some (.int .u8 (nget l i)) := by
 rcases h.at_ with rfl | ⟨b, o, hp, hc⟩
 ·simp at hi
 ·exact ⟨b, o, hp, hc i hi⟩
theorem RdB.new {W : World} {N : Nat} {ty : TypeId} {l : List Int} (hN : N = W.heap.size) : RdB (W.alloc (.cells (l.map (Value.int .u8)).toArray ty)) l.length (some ⟨N, 0, none⟩) l := by
 subst hN
 refine ⟨rfl, .inr ⟨_, 0, rfl, fun i hi => ?_⟩⟩
 rw [World.cell?_alloc_mark]
 simp only [List.getElem?_toArray, List.getElem?_map, Nat.zero_add, nget_at hi, Option.map_some]
set_option maxRecDepth 100000 in
set_option maxHeartbeats 6400000 in
theorem in_walk {n c : Nat} {a : Option Addr} {l : List Int} {w : World} (h : RdB w n a l) (hn : n ≤ 100000) (x : Int) : Calls Tryz.prog 35 #[.slice a n c, .int .u8 x] w fun e w' => e = .returned (.bool (l.contains x)) ∧ w' = w := by
 have H := Lib.hid h
 clear h
 go_enter Tryz.func35, Tryz.ntmps35
 go_wp2_with (fail)
 go_loopw [5, 8] (fun _ i wr => ∃ j : Nat, j ≤ n ∧ i = .int .i64 (j : Int) ∧ Hid (wr = w) ∧ Hid (∀ i, i < j → nget l i ≠ x)) (fun _ i _ => n - (intOf i).toNat)
 case atStart => exact ⟨0, Nat.zero_le _, rfl, Lib.hid rfl, Lib.hid (fun i hi => absurd hi (Nat.not_lt_zero _))⟩
 case round =>
  obtain ⟨j, hj, rfl, HW, HA⟩ := hrel
  by_cases hlt : j < n
  ·have hjl : j < l.length := by rw [H.out.len]; exact hlt
   obtain ⟨b1, o1, rfl, e0⟩ := H.out.get j hjl
   rw [← HW.out] at e0
   by_cases hx : nget l j = x
   ·have HC := Lib.hid (show l.contains x = true by simp; rw [← hx]; exact nget_mem hjl)
    rw [hx] at e0
    have hxx : (x == x) = true := by simp
    clear hx hjl
    go_wp2_with (fail)
    go_ret
    exact ⟨ret_bool HC.out.symm, HW.out⟩
   ·have hxx : (nget l j == x) = false := by simpa using hx
    have HX := Lib.hid hx
    clear hx hjl
    go_wp2_with (fail)
    go_roundw
    case rel => exact ⟨j + 1, by omega, by go_num, HW, Lib.hid fun i hi => by
      by_cases e : i = j
      ·rw [e]; exact HX.out
      ·exact HA.out i (by omega)⟩
    case measure => simp [intOf]; omega
  ·obtain rfl : j = n := by omega
   have HC := Lib.hid (show l.contains x = false by
    rw [Bool.eq_false_iff]
    intro hc
    have hmem : x ∈ l := by simpa using hc
    obtain ⟨i, hi, e⟩ := List.mem_iff_getElem.1 hmem
    refine HA.out i (by rw [← H.out.len]; exact hi) ?_
    have := nget_at hi
    rw [List.getElem?_eq_getElem hi, e] at this
    exact (Option.some.inj this).symm)
   go_wp2_with (fail)
   go_ret
   exact ⟨ret_bool HC.out.symm, HW.out⟩

def plainB (t : Rt.RT) : Bool := decide (t.h.k = 0 ∧ t.h.r = 0 ∧ t.h.e.length = 0 ∧ t.ks.length = 0)
set_option maxRecDepth 10000 in
theorem plain_walk (t : Rt.RT) (pe : Option Addr) (ce : Nat) (p : Option Addr) (c : Nat) (w : World) (hl : t.ks.length ≤ 9223372036854775807) (he : t.h.e.length ≤ 9223372036854775807) :
  Calls Tryz.prog 39 #[.agg #[.int .u8 t.h.k, .int .i64 t.h.r, .slice pe t.h.e.length ce, .slice p t.ks.length c]] w fun e w' => e = .returned (.bool (plainB t)) ∧ Below w.heap.size w w' := by
 have hp : plainB t = decide (t.h.k = 0 ∧ t.h.r = 0 ∧ t.h.e.length = 0 ∧ t.ks.length = 0) := rfl
 have hbox : ∀ O : Obj, Below w.heap.size w (w.alloc O) := fun O => box_new O
 have HBOX := Lib.hid hbox
 clear hbox
 generalize t.h.e.length = n at *
 generalize t.ks.length = l at *
 generalize t.h.k = k at *
 generalize t.h.r = r at *
 generalize plainB t = B at *
 by_cases h1 : k = 0
 ·subst h1
  by_cases h2 : r = 0
  ·subst h2
   by_cases h3 : n = 0
   ·subst h3
    by_cases h4 : l = 0
    ·subst h4
     have HP := Lib.hid (show B = true by rw [hp]; simp)
     clear hp
     go_enter Tryz.func39, Tryz.ntmps39
     go_wp2_with (fail)
     go_ret
     exact ⟨ret_bool HP.out.symm, HBOX.out _⟩
    ·have HP := Lib.hid (show B = false by rw [hp]; simp [h4])
     have hx : ((l : Int) == 0) = false := by rw [beq_eq_false_iff_ne]; omega
     clear hp h4
     go_enter Tryz.func39, Tryz.ntmps39
     go_wp2_with (fail)
     go_ret
     exact ⟨ret_bool HP.out.symm, HBOX.out _⟩
   ·have HP := Lib.hid (show B = false by rw [hp]; simp [h3])
    have hx : ((n : Int) == 0) = false := by rw [beq_eq_false_iff_ne]; omega
    clear hp h3
    go_enter Tryz.func39, Tryz.ntmps39
    go_wp2_with (fail)
    go_ret
    exact ⟨ret_bool HP.out.symm, HBOX.out _⟩
  ·have HP := Lib.hid (show B = false by rw [hp]; simp [h2])
   have hx : (r == 0) = false := by simpa using h2
   clear hp h2
   go_enter Tryz.func39, Tryz.ntmps39
   go_wp2_with (fail)
   go_ret
   exact ⟨ret_bool HP.out.symm, HBOX.out _⟩
 ·have HP := Lib.hid (show B = false by rw [hp]; simp [h1])
  have hx : (k == 0) = false := by simpa using h1
  clear hp h1
  go_enter Tryz.func39, Tryz.ntmps39
  go_wp2_with (fail)
  go_ret
  exact ⟨ret_bool HP.out.symm, HBOX.out _⟩
end Aterm
end Go.Proofs.YtkfkpjngiffamaaGreatDoor
namespace Go.Proofs.YtkfkpjngiffamaaGreatDoor
open Go.RowKit
set_option linter.unusedVariables false
namespace Term

mutual
def flatT : Tm → List Tm
 | .node h l => .node h l :: flatK l
def flatK : List Tm → List Tm
 | [] => []
 | t :: ts => flatT t ++ flatK ts
end
theorem flatT_eq (t : Tm) : flatT t = t :: flatK t.ks := by cases t; unfold flatT; rfl
theorem flatK_nil : flatK [] = [] := by unfold flatK; rfl
theorem flatK_cons (t : Tm) (ts : List Tm) : flatK (t :: ts) = flatT t ++ flatK ts := by conv => lhs; unfold flatK
theorem flatK_append : ∀ ts us : List Tm, flatK (ts ++ us) = flatK ts ++ flatK us
 | [], us => by rw [flatK_nil]; rfl
 | t :: ts, us => by rw [List.cons_append, flatK_cons, flatK_cons, flatK_append ts us, List.append_assoc]
theorem flat_len : ∀ m : Nat, (∀ t, wt t ≤ m → (flatT t).length = wt t) ∧ (∀ ts, wts ts ≤ m → (flatK ts).length = wts ts) := by
 intro m
 induction m with
 | zero =>
  refine ⟨fun t h => by have := wt_pos t; omega, fun ts h => ?_⟩
  cases ts with
  | nil => rw [flatK_nil, wts_nil]; rfl
  | cons t ts => rw [wts_cons] at h; have := wt_pos t; omega
 | succ m ih =>
  have hT : ∀ t, wt t ≤ m + 1 → (flatT t).length = wt t := by
   intro t h
   have hk := wt_ks t
   have := ih.2 t.ks (by omega)
   rw [flatT_eq, List.length_cons, this]
   omega
  refine ⟨hT, fun ts => ?_⟩
  induction ts with
  | nil => intro _; rw [flatK_nil, wts_nil]; rfl
  | cons t ts ihs =>
   intro h
   rw [wts_cons] at h
   rw [flatK_cons, wts_cons, List.length_append, hT t (by omega), ihs (by omega)]
theorem flatT_len (t : Tm) : (flatT t).length = wt t := (flat_len (wt t)).1 t (Nat.le_refl _)
theorem flatK_take (ts : List Tm) (k : Nat) (h : k < ts.length) : flatK (ts.take (k + 1)) = flatK (ts.take k) ++ flatT (tget ts k) := by
 rw [take_tget ts k h, flatK_append, flatK_cons, flatK_nil, List.append_nil]
def Flat (w : World) : List Value → List Tm → Prop
 | xs, [] => xs = []
 | xs, t :: ts => ∃ q c ys, xs = tcells t.h q t.ks.length c ++ ys ∧ TmIs w t.h q t.ks.length c t ∧ Flat w ys ts
theorem Flat.append {w : World} : ∀ {ts us : List Tm} {xs ys : List Value}, Flat w xs ts → Flat w ys us → Flat w (xs ++ ys) (ts ++ us)
 | [], us, xs, ys, h, k => by
  have : xs = [] := h
  subst this
  exact k
 | t :: ts, us, xs, ys, ⟨q, c, zs, he, hT, h⟩, k => ⟨q, c, zs ++ ys, by rw [he, List.append_assoc], hT, h.append k⟩
theorem Flat.len {w : World} : ∀ {ts : List Tm} {xs : List Value}, Flat w xs ts → xs.length = ts.length * 8
 | [], xs, h => by
  have : xs = [] := h
  subst this
  rfl
 | t :: ts, xs, ⟨q, c, zs, he, _, h⟩ => by
  rw [he, List.length_append, h.len, List.length_cons]
  simp [tcells]
  omega
theorem Flat.one {w : World} {t : Tm} {h : Hd} {q : Option Addr} {l c : Nat} (hT : TmIs w h q l c t) : Flat w (tcells h q l c) [t] := by
 obtain ⟨h1, h2, h3, h4, h5⟩ := hT
 subst h1 h2
 exact ⟨q, c, [], by simp, ⟨rfl, rfl, h3, h4, h5⟩, rfl⟩
theorem Flat.cells1 {w : World} : ∀ {ts : List Tm} {xs : List Value}, Flat w xs ts → ∀ u ∈ xs, u.oneCell' = true
 | [], xs, h, u, hu => by
  have : xs = [] := h
  subst this
  cases hu
 | t :: ts, xs, ⟨q, c, zs, he, _, h⟩, u, hu => by
  rw [he] at hu
  rcases List.mem_append.1 hu with hu | hu
  ·simp [tcells] at hu
   rcases hu with rfl | rfl | rfl | rfl | rfl | rfl | rfl | rfl <;> rfl
  ·exact h.cells1 u hu
theorem Flat.get {w : World} : ∀ {ts : List Tm} {xs : List Value}, Flat w xs ts → ∀ i, i < ts.length → ∃ q c, TmIs w (tget ts i).h q (tget ts i).ks.length c (tget ts i) ∧ ∀ j v, (tcells (tget ts i).h q (tget ts i).ks.length c)[j]? = some v → xs[i * 8 + j]? = some v
 | [], xs, _, i, hi => by simp at hi
 | t :: ts, xs, ⟨q, c, zs, he, hT, h⟩, 0, _ => by
  refine ⟨q, c, hT, fun j v hv => ?_⟩
  rw [he, Nat.zero_mul, Nat.zero_add, List.getElem?_append_left ?_]
  ·exact hv
  ·rcases Nat.lt_or_ge j (tcells t.h q t.ks.length c).length with h | h
   ·exact h
   ·rw [List.getElem?_eq_none (by exact h)] at hv; cases hv
 | t :: ts, xs, ⟨q, c, zs, he, hT, h⟩, i + 1, hi => by
  obtain ⟨q', c', h1, h2⟩ := h.get i (by simpa using hi)
  refine ⟨q', c', h1, fun j v hv => ?_⟩
  rw [he, List.getElem?_append_right (by simp [tcells]; omega)]
  have e : (i + 1) * 8 + j - (tcells t.h q t.ks.length c).length = i * 8 + j := by simp [tcells]; omega
  rw [e]
  exact h2 j v hv
theorem Flat.stay {w W : World} (hb : Below w.heap.size w W) : ∀ {ts : List Tm} {xs : List Value}, Flat w xs ts → Flat W xs ts
 | [], xs, h => h
 | t :: ts, xs, ⟨q, c, zs, he, hT, h⟩ => ⟨q, c, zs, he, hT.below hb, h.stay hb⟩
theorem infoTerm : (Tryz.prog.info? 89).map (fun i => (i.zero, i.size, i.bytes)) = some (some (.agg #[.int .u8 0, .int .u8 0, .int .i64 0, .int .i64 0, .string ⟨#[]⟩, .string ⟨#[]⟩, .string ⟨#[]⟩, .slice none 0 0]), 8, 96) := by kernel_rfl
end Term
end Go.Proofs.YtkfkpjngiffamaaGreatDoor
namespace Go.Proofs.YtkfkpjngiffamaaGreatDoor
open Go.RowKit
set_option linter.unusedVariables false
namespace Term
open Words (nameB exnB)

mutual
def okT : Tm → Bool
 | .node h l => nodeB h l.length && okK l
def okK : List Tm → Bool
 | [] => true
 | t :: ts => okT t && okK ts
end
theorem okT_eq (t : Tm) : okT t = (nodeB t.h t.ks.length && okK t.ks) := by
 cases t
 conv => lhs; unfold okT
 rfl
theorem okK_nil : okK [] = true := by unfold okK; rfl
theorem okK_cons (t : Tm) (ts : List Tm) : okK (t :: ts) = (okT t && okK ts) := by conv => lhs; unfold okK
def mayT (t : Tm) : Bool := decide (wt t ≤ 4000) && okT t
end Term
end Go.Proofs.YtkfkpjngiffamaaGreatDoor
namespace Go.Proofs.YtkfkpjngiffamaaGreatDoor
open Go.RowKit
set_option linter.unusedVariables false
set_option linter.unusedSimpArgs false
namespace Aterm
open Effect (At AtOk AtsAt Rd RdI ofA)
open Words (nameB exnB)

def likeK (k : Int) : Int := if k = 17 then 4 else if k = 18 then 2 else k
def likeH (h : Term.Hd) : Term.Hd := { h with k := likeK h.k }
def headOk (h : Term.Hd) (n : Nat) : Bool := Term.nodeB (likeH h) n
def rhoOk (h : Hd) : Bool := if h.h.k = 3 ∨ h.h.k = 6 ∨ h.h.k = 11 ∨ h.h.k = 13 ∨ h.h.k = 18 then decide (0 ≤ h.rho) else if h.h.k = 17 then decide (1 ≤ h.rho) else decide (h.rho = 0)
def rhosOk (h : Hd) : Bool := if h.h.k = 13 then !metO [] h.rhos && decide (∀ x ∈ h.rhos, 1 ≤ x) else if h.h.k = 18 then decide (∀ x ∈ h.rhos, 0 ≤ x) else decide (h.rhos.length = 0)
def effK (k : Int) : Bool := decide (k = 11 ∨ k = 13 ∨ k = 18)
def typK (k : Int) : Bool := decide (k = 11 ∨ k = 13 ∨ k = 15)
def effOk (h : Hd) : Bool := if effK h.h.k = true then decide (h.e = ofA h.e) else decide (h.e.length = 0)
def typOk (h : Hd) : Bool := if typK h.h.k = true then Rt.mayT h.ty else plainB h.ty
def resOk (h : Hd) : Bool := if h.h.k = 13 then Rt.mayT h.re else plainB h.re
def nodeB (h : Hd) (n : Nat) : Bool := headOk h.h n && rhoOk h && rhosOk h && effOk h && typOk h && resOk h
def mayT (t : AT) : Bool := decide (wt t ≤ 40000) && allT nodeB t

theorem kids_le {k : Int} : Term.kidsN k ≤ 3 := by unfold Term.kidsN; repeat' split; all_goals omega
theorem head_many {h : Term.Hd} {n : Nat} (hn : 3 < n) : headOk h n = false := by
 unfold headOk
 exact Term.nodeB_no (fun hh => by have := kids_le (k := (likeH h).k); have := hh.1; omega)

mutual
def foT {σ : Type} (B : σ → AT → Bool) (S : σ → AT → σ) : AT → σ → Bool × σ
 | .node h l, s => if B s (.node h l) = true then foK B S l (S s (.node h l)) else (false, S s (.node h l))
def foK {σ : Type} (B : σ → AT → Bool) (S : σ → AT → σ) : List AT → σ → Bool × σ
 | [], s => (true, s)
 | t :: ts, s => if (foT B S t s).1 = true then foK B S ts (foT B S t s).2 else (false, (foT B S t s).2)
end
section
variable {σ : Type} (B : σ → AT → Bool) (S : σ → AT → σ)
theorem foT_eq (t : AT) (s : σ) : foT B S t s = if B s t = true then foK B S t.ks (S s t) else (false, S s t) := by cases t; unfold foT; rfl
theorem foK_nil (s : σ) : foK B S [] s = (true, s) := by unfold foK; rfl
theorem foK_cons (t : AT) (ts : List AT) (s : σ) : foK B S (t :: ts) s = if (foT B S t s).1 = true then foK B S ts (foT B S t s).2 else (false, (foT B S t s).2) := by conv => lhs; unfold foK
theorem foK_no {ts : List AT} {j : Nat} {u : σ} (hj : j < ts.length) (h : B u (tget ts j) = false) : foK B S (ts.drop j) u = (false, S u (tget ts j)) := by
 rw [drop_tget ts j hj, foK_cons, foT_eq]
 simp [h]
theorem foK_kno {ts : List AT} {j : Nat} {u : σ} (hj : j < ts.length) (h : B u (tget ts j) = true) (hk : (foK B S (tget ts j).ks (S u (tget ts j))).1 = false) : foK B S (ts.drop j) u = (false, (foK B S (tget ts j).ks (S u (tget ts j))).2) := by
 rw [drop_tget ts j hj, foK_cons, foT_eq, if_pos h, if_neg (by rw [hk]; exact Bool.false_ne_true)]
theorem foK_yes {ts : List AT} {j : Nat} {u : σ} (hj : j < ts.length) (h : B u (tget ts j) = true) (hk : (foK B S (tget ts j).ks (S u (tget ts j))).1 = true) : foK B S (ts.drop j) u = foK B S (ts.drop (j + 1)) (foK B S (tget ts j).ks (S u (tget ts j))).2 := by
 rw [drop_tget ts j hj, foK_cons, foT_eq, if_pos h, if_pos hk]
def foL : List AT → σ → Bool × σ
 | [], s => (true, s)
 | t :: ts, s => if B s t = true then foL ts (S s t) else (false, S s t)
theorem foL_append (l m : List AT) (s : σ) : foL B S (l ++ m) s = if (foL B S l s).1 = true then foL B S m (foL B S l s).2 else foL B S l s := by
 induction l generalizing s with
 | nil => simp [foL]
 | cons t ts ih =>
  rw [List.cons_append, foL, foL]
  by_cases hb : B s t = true
  ·rw [if_pos hb, if_pos hb]; exact ih _
  ·rw [if_neg hb, if_neg hb, if_neg Bool.false_ne_true]
theorem fo_flat : ∀ m : Nat, (∀ t s, wt t ≤ m → foT B S t s = foL B S (flatT t) s) ∧ (∀ ts s, wts ts ≤ m → foK B S ts s = foL B S (flatK ts) s) := by
 intro m
 induction m with
 | zero =>
  refine ⟨fun t s h => by have := wt_pos t; omega, fun ts s h => ?_⟩
  cases ts with
  | nil => rw [flatK_nil, foK_nil]; rfl
  | cons t ts => rw [wts_cons] at h; have := wt_pos t; omega
 | succ m ih =>
  have hT : ∀ t s, wt t ≤ m + 1 → foT B S t s = foL B S (flatT t) s := by
   intro t s h
   have hk := wt_ks t
   rw [flatT_eq, foT_eq, foL]
   split
   ·exact ih.2 t.ks _ (by omega)
   ·rfl
  refine ⟨hT, fun ts => ?_⟩
  induction ts with
  | nil => intro s _; rw [flatK_nil, foK_nil]; rfl
  | cons t ts ihs =>
   intro s h
   rw [wts_cons] at h
   rw [flatK_cons, foK_cons, foL_append, ← hT t s (by omega)]
   split
   ·exact ihs _ (by omega)
   ·rename_i hh
    have : (foT B S t s).1 = false := by simpa using hh
    rw [← this]
theorem foT_flat (t : AT) (s : σ) : foT B S t s = foL B S (flatT t) s := (fo_flat B S (wt t)).1 t s (Nat.le_refl _)
end
def mayB (s : Int) (t : AT) : Bool := decide (0 ≤ s - 1) && nodeB t.h t.ks.length
def mayS (s : Int) (_ : AT) : Int := s - 1
theorem foL_may : ∀ (l : List AT) (s : Int), 0 ≤ s → (foL mayB mayS l s).1 = (decide ((l.length : Int) ≤ s) && l.all fun t => nodeB t.h t.ks.length)
 | [], s, hs => by rw [foL]; simp; exact hs
 | t :: ts, s, hs => by
  rw [foL]
  by_cases h0 : 0 ≤ s - 1
  ·have hb : mayB s t = nodeB t.h t.ks.length := by unfold mayB; rw [decide_eq_true h0, Bool.true_and]
   cases hn : nodeB t.h t.ks.length
   ·rw [hb, hn, if_neg Bool.false_ne_true]
    simp [hn]
   ·rw [hb, hn, if_pos rfl, foL_may ts (mayS s t) h0, List.all_cons, hn, Bool.true_and, List.length_cons]
    congr 1
    rw [decide_eq_decide]
    unfold mayS
    omega
  ·have hb : mayB s t = false := by unfold mayB; rw [decide_eq_false h0, Bool.false_and]
   rw [hb, if_neg Bool.false_ne_true, decide_eq_false (by rw [List.length_cons]; omega), Bool.false_and]
section
variable (B : Hd → Nat → Bool)
theorem all_flat : ∀ m : Nat, (∀ t, wt t ≤ m → allT B t = (flatT t).all fun t => B t.h t.ks.length) ∧ (∀ ts, wts ts ≤ m → allK B ts = (flatK ts).all fun t => B t.h t.ks.length) := by
 intro m
 induction m with
 | zero =>
  refine ⟨fun t h => by have := wt_pos t; omega, fun ts h => ?_⟩
  cases ts with
  | nil => rw [flatK_nil, allK_nil]; rfl
  | cons t ts => rw [wts_cons] at h; have := wt_pos t; omega
 | succ m ih =>
  have hT : ∀ t, wt t ≤ m + 1 → allT B t = (flatT t).all fun t => B t.h t.ks.length := by
   intro t h
   have hk := wt_ks t
   rw [allT_eq, flatT_eq, List.all_cons, ih.2 t.ks (by omega)]
  refine ⟨hT, fun ts => ?_⟩
  induction ts with
  | nil => intro _; rw [flatK_nil, allK_nil]; rfl
  | cons t ts ihs =>
   intro h
   rw [wts_cons] at h
   rw [allK_cons, flatK_cons, List.all_append, hT t (by omega), ihs (by omega)]
theorem allT_flat (t : AT) : allT B t = (flatT t).all fun t => B t.h t.ks.length := (all_flat B (wt t)).1 t (Nat.le_refl _)
end
theorem fo_may (t : AT) : (foT mayB mayS t 40000).1 = mayT t := by
 rw [foT_flat, foL_may _ _ (by omega), flatT_len, ← allT_flat]
 unfold mayT
 congr 1
 rw [decide_eq_decide]
 omega

def metI : List Int → List Int → List Int
 | met, [] => met
 | met, x :: xs => if met.contains x = true then met else metI (met ++ [x]) xs
theorem metI_no : ∀ (xs met : List Int), metO met xs = false → metI met xs = met ++ xs
 | [], met, _ => by rw [metI, List.append_nil]
 | x :: xs, met, h => by
  rw [metO, Bool.or_eq_false_iff] at h
  rw [metI, if_neg (by rw [h.1]; exact Bool.false_ne_true), metI_no xs _ h.2, List.append_assoc]; rfl
def apS (s : List Int × Option Int) (t : AT) : List Int × Option Int := (metI s.1 (ownH t.h), if metO s.1 (ownH t.h) = true then some t.h.h.pl else s.2)
def apB (s : List Int × Option Int) (t : AT) : Bool := !metO s.1 (ownH t.h)
theorem foL_apart : ∀ (l : List AT) (met : List Int), (foL apB apS l (met, none)).1 = (apartL l met).isNone ∧ (foL apB apS l (met, none)).2.2 = apartL l met
 | [], met => ⟨rfl, rfl⟩
 | t :: ts, met => by
  rw [foL, apartL]
  by_cases hm : metO met (ownH t.h) = true
  ·have hb : apB (met, none) t = false := by unfold apB; simp only; rw [hm]; rfl
   have hs : (apS (met, none) t).2 = some t.h.h.pl := by unfold apS; simp only; rw [if_pos hm]
   rw [hb, if_neg Bool.false_ne_true, if_pos hm]
   exact ⟨rfl, hs⟩
  ·have hm' : metO met (ownH t.h) = false := by simpa using hm
   have hb : apB (met, none) t = true := by unfold apB; simp only; rw [hm']; rfl
   have hs : apS (met, none) t = (met ++ ownH t.h, none) := by unfold apS; simp only; rw [if_neg hm, metI_no _ _ hm']
   rw [hb, if_pos rfl, if_neg hm, hs]
   exact foL_apart ts _
theorem fo_apart (t : AT) : (foT apB apS t ([], none)).1 = (apartT t).isNone ∧ (foT apB apS t ([], none)).2.2 = apartT t := by
 rw [foT_flat]
 exact foL_apart _ _
end Aterm
end Go.Proofs.YtkfkpjngiffamaaGreatDoor
namespace Go.Proofs.YtkfkpjngiffamaaGreatDoor
open Go.RowKit
set_option linter.unusedVariables false
namespace Effect

def oneB (x : Int) : ByteArray := ⟨#[UInt8.ofNat x.toNat]⟩
theorem byte_back (w : World) (x : Int) :
  (convert 63 9 (.slice (some ⟨w.heap.size, 0, none⟩) 1 1)).run Tryz.prog (w.alloc (.cells #[.int .u8 x] 5)) = .ok (.string (oneB x)) (w.alloc (.cells #[.int .u8 x] 5)) := by
 have := run_convert_bytes_arg (P := Tryz.prog) (w.alloc (.cells #[.int .u8 x] 5)) 63 5 Tryz.underlying63 Tryz.underlying5 w.heap.size 0 1 1 [x] rfl (fun i hi => by
  have : i = 0 := by omega
  subst this
  simp [go_sem]) 9 Tryz.underlying9
 exact this

theorem dig_small (n : Int) (h0 : 0 ≤ n) (h : n < 10) : oneB (48 + n % 10) = ⟨(Lib.decDigits n.toNat).toArray⟩ := by
 unfold oneB
 rw [Lib.decDigits_one (by omega), show (48 + n % 10).toNat = 48 + n.toNat from by omega]
theorem dig_big (n : Int) (h : ¬ n < 10) : (⟨(Lib.decDigits (n / 10).toNat).toArray⟩ : ByteArray) ++ oneB (48 + n % 10) = ⟨(Lib.decDigits n.toNat).toArray⟩ := by
 apply bytes_ext
 rw [Lib.decDigits.eq_1 n.toNat, dif_neg (by omega)]
 unfold oneB
 rw [show (48 + n % 10).toNat = 48 + n.toNat % 10 from by omega, show (n / 10).toNat = n.toNat / 10 from by omega]
 simp [ByteArray.data_append]

theorem dig_add (n : Int) (h : ¬ n < 10) (h1 : n ≤ 9223372036854775807) (W : World) :
  (Op.stringOp .add (⟨(Lib.decDigits (n / 10).toNat).toArray⟩ : ByteArray) (oneB (48 + n % 10))).run Tryz.prog W = .ok (.string ⟨(Lib.decDigits n.toNat).toArray⟩) W := by
 rw [run_string_add_sum, dig_big n h]
 have e1 : (⟨(Lib.decDigits (n / 10).toNat).toArray⟩ : ByteArray).size = (Lib.decDigits (n / 10).toNat).length := by simp [ByteArray.size]
 have e2 : (oneB (48 + n % 10)).size = 1 := rfl
 have := Lib.nDigits_le20 (n / 10).toNat (by omega)
 rw [← Lib.decDigits_length] at this
 omega

set_option maxHeartbeats 400000 in
theorem refDigits_nat (k : Nat) : ∀ (n : Int) (w : World), n ≤ k → 0 ≤ n → n ≤ 9223372036854775807 →
  Calls Tryz.prog 22 #[.int .i64 n] w fun e w' => e = .returned (.string ⟨(Lib.decDigits n.toNat).toArray⟩) ∧ Below w.heap.size w w' := by
 induction k with
 | zero =>
  intro n w hk h0 h1
  have hbk := fun W => byte_back W (48 + n % 10)
  have hd := dig_small n h0 (by omega)
  have HD := Lib.hid hd; clear hd
  have hn : n < 10 := by omega
  go_enter Tryz.func22, Tryz.ntmps22
  go_wp2_with (fail)
  go_ret
  exact ⟨ret_str HD.out, (Below.refl _ _).alloc (Nat.le_refl _) _⟩
 | succ k ih =>
  intro n w hk h0 h1
  have hbk := fun W => byte_back W (48 + n % 10)
  by_cases hn : n < 10
  ·have hd := dig_small n h0 hn
   have HD := Lib.hid hd
   clear hd ih
   go_enter Tryz.func22, Tryz.ntmps22
   go_wp2_with (fail)
   go_ret
   exact ⟨ret_str HD.out, (Below.refl _ _).alloc (Nat.le_refl _) _⟩
  ·have hd := dig_add n hn h1
   have IH := Lib.hid ih
   clear ih
   go_enter Tryz.func22, Tryz.ntmps22
   go_wp2_with (fail)
   refine (IH.out (n / 10) _ (by omega) (by omega) (by omega)).mono ?_
   rintro e w' ⟨rfl, hb⟩
   have hb2 : Below w.heap.size w w' := ((Below.refl _ _).alloc (Nat.le_refl _) _).trans (hb.mono (by simp))
   have HB := Lib.hid hb2; clear hb hb2 hbk
   go_wp2
   go_ret
   exact ⟨rfl, HB.out⟩

def least : Int := -9223372036854775808
def leastText : ByteArray := ⟨#[45, 57, 50, 50, 51, 51, 55, 50, 48, 51, 54, 56, 53, 52, 55, 55, 53, 56, 48, 56]⟩
theorem least_itoa : leastText = ⟨(Lib.itoa least).toArray⟩ := by
 unfold least leastText Lib.itoa
 simp [Lib.decDigits]
theorem neg_add (n : Int) (h : n < 0) (h1 : -9223372036854775808 ≤ n) (W : World) :
  (Op.stringOp .add (⟨#[45]⟩ : ByteArray) (⟨(Lib.decDigits (-n).toNat).toArray⟩ : ByteArray)).run Tryz.prog W = .ok (.string ⟨(Lib.itoa n).toArray⟩) W := by
 rw [run_string_add_sum]
 ·have : (⟨#[45]⟩ : ByteArray) ++ (⟨(Lib.decDigits (-n).toNat).toArray⟩ : ByteArray) = ⟨(Lib.itoa n).toArray⟩ := by
   apply bytes_ext
   unfold Lib.itoa
   rw [if_pos h, show n.natAbs = (-n).toNat from by omega]
   simp [ByteArray.data_append]
  rw [this]
 have e1 : (⟨(Lib.decDigits (-n).toNat).toArray⟩ : ByteArray).size = (Lib.decDigits (-n).toNat).length := by simp [ByteArray.size]
 have e2 : (⟨#[45]⟩ : ByteArray).size = 1 := rfl
 have := Lib.nDigits_le20 (-n).toNat (by omega)
 rw [← Lib.decDigits_length] at this
 omega

set_option maxHeartbeats 400000 in
theorem refDigits_walk (n : Int) (h0 : -9223372036854775808 ≤ n) (h1 : n ≤ 9223372036854775807) (w : World) :
  Calls Tryz.prog 22 #[.int .i64 n] w fun e w' => e = .returned (.string ⟨(Lib.itoa n).toArray⟩) ∧ Below w.heap.size w w' := by
 by_cases hn : n < 0
 ·by_cases hm : n = least
  ·have ht := least_itoa
   have hlt : least < 0 := by decide
   have HT := Lib.hid ht
   subst hm
   have e : (least == -9223372036854775808) = true := by decide
   clear ht h0 h1 hn
   go_enter Tryz.func22, Tryz.ntmps22
   go_wp2_with (fail)
   go_ret
   exact ⟨ret_str HT.out, Below.refl _ _⟩
  ·have hd := neg_add n hn h0
   have hne : (n == -9223372036854775808) = false := by rw [beq_eq_false_iff_ne]; exact hm
   have hlo : -9223372036854775807 ≤ n := by unfold least at hm; omega
   have HM := Lib.hid hm
   clear hm h0
   go_enter Tryz.func22, Tryz.ntmps22
   go_wp2_with (fail)
   refine (refDigits_nat (-n).toNat (-n) _ (by omega) (by omega) (by omega)).mono ?_
   rintro e w' ⟨rfl, hb⟩
   have HB := Lib.hid hb; clear hb hne
   go_wp2
   go_ret
   exact ⟨rfl, HB.out⟩
 ·refine (refDigits_nat n.toNat n w (by omega) (by omega) h1).mono ?_
  rintro e w' ⟨rfl, hb⟩
  refine ⟨ret_str ?_, hb⟩
  unfold Lib.itoa
  rw [if_neg hn]


end Effect
end Go.Proofs.YtkfkpjngiffamaaGreatDoor

namespace Go.Proofs.YtkfkpjngiffamaaGreatDoor
open Go.RowKit
set_option linter.unusedVariables false
set_option linter.unusedSimpArgs false
namespace Effect

theorem join_snoc (ss : List ByteArray) (s : ByteArray) : joinT (ss ++ [s]) = if ss = [] then s else joinT ss ++ sepW ++ s := by
 cases ss with
 | nil =>
  rw [if_pos rfl]
  apply bytes_ext
  unfold joinT
  simp [Lib.join_cons, Lib.joinTail]
 | cons x r =>
  rw [if_neg (by simp)]
  apply bytes_ext
  unfold joinT sepW
  simp [Lib.join_cons, Lib.joinTail, ByteArray.data_append]
theorem joinT_nil : joinT [] = ⟨#[]⟩ := by unfold joinT; simp [Lib.join_nil]
theorem joinT_size (ss : List ByteArray) (h : ∀ s ∈ ss, s.size ≤ 1004) : (joinT ss).size ≤ 1007 * ss.length := by
 have h1 : (joinT ss).size = (Lib.join (ss.map (·.data.toList)) [32, 44, 32]).length := by unfold joinT; simp [ByteArray.size]
 rw [h1]
 exact join_len ss h
set_option maxRecDepth 100000 in
set_option maxHeartbeats 12800000 in
theorem refText_walk {n c : Nat} {a : Option Addr} {l : List At} {w : World} (h : Rd w n a l) (hn : n ≤ 1000) (hsh : ∀ x ∈ ofA l, Sh x) : Calls Tryz.prog 21 #[.slice a n c] w fun e w' => e = .returned (.string (textE (ofA l))) ∧ Below w.heap.size w w' := by
 have HC := Lib.hid (refOf_walk (c := c) h (by omega)); have HSH := Lib.hid hsh
 have hat : ∀ x ∈ ofA l, atomB x = true := fun x hx => ((mem_of l x).1 hx).2
 clear h hsh
 generalize ofA l = u at *
 have HAT := Lib.hid hat
 clear hat
 go_enter Tryz.func21, Tryz.ntmps21
 go_wp2_with (fail)
 refine HC.out.mono ?_
 rintro e w1 ⟨a1, m, c1, rfl, hm, -, hr1, hb1⟩
 have HR := Lib.hid hr1; have HB := Lib.hid hb1; have HUL := Lib.hid hr1.len
 clear hr1 hb1
 go_wp2_with (fail)
 go_loopw [4, 5, 10] (fun out _ i wr => ∃ (j : Nat) (o : ByteArray), j ≤ m ∧ i = .int .i64 (j : Int) ∧ out = .string o ∧ Hid (o = joinT ((u.take j).map textA)) ∧ Hid (Below w1.heap.size w1 wr)) (fun _ _ i _ => m - (intOf i).toNat)
 case atStart => exact ⟨0, ⟨#[]⟩, Nat.zero_le _, rfl, rfl, Lib.hid (by rw [List.take_zero]; exact joinT_nil.symm), Lib.hid (Below.refl _ _)⟩
 case round =>
  obtain ⟨j, o, hj, rfl, rfl, HO, HS⟩ := hrel
  by_cases hlt : j < m
  ·have hjl : j < u.length := by rw [HUL.out]; exact hlt
   obtain ⟨b, q, rfl, e0, e1, e2⟩ := (HR.out.at_.below HS.out).get j hjl
   have hx := HSH.out _ (aget_mem hjl)
   have hax := HAT.out _ (aget_mem hjl)
   have htk := at_take u j hjl
   have hall : ∀ t, ∀ s ∈ (u.take t).map textA, s.size ≤ 1004 := fun t s hs => by
    obtain ⟨y, hy, rfl⟩ := List.mem_map.1 hs
    exact textA_size (HSH.out y (List.mem_of_mem_take hy))
   have hs0 := joinT_size _ (hall j)
   have hs1 := joinT_size _ (hall (j + 1))
   rw [List.length_map, List.length_take] at hs0 hs1
   rw [← HO.out] at hs0
   generalize aget u j = x at *
   obtain ⟨p0, hp0⟩ : ∃ p0, (if j = 0 then o else o ++ sepW) = p0 := ⟨_, rfl⟩
   have hnx : joinT ((u.take (j + 1)).map textA) = p0 ++ textA x := by
    rw [htk, List.map_append, List.map_cons, List.map_nil, join_snoc, ← hp0]
    by_cases h0 : j = 0
    ·subst h0
     have : o = ⟨#[]⟩ := by rw [HO.out, List.take_zero]; exact joinT_nil
     rw [if_pos (by simp), if_pos rfl, this]
     apply bytes_ext
     simp [ByteArray.data_append]
    ·rw [if_neg (by
      intro e
      have := congrArg List.length e
      rw [List.length_map, List.length_take] at this
      rw [List.length_nil] at this
      omega), if_neg h0, ← HO.out]
   have hps : p0.size ≤ 1007 * 1000 + 3 := by
    rw [← hp0]
    have e3 : sepW.size = 3 := rfl
    split
    ·omega
    ·rw [ByteArray.size_append]; omega
   have HNX := Lib.hid hnx; have HSZ1 := Lib.hid (show (joinT ((u.take (j + 1)).map textA)).size ≤ 1007 * 1000 by omega)
   have HDG := Lib.hid fun W => refDigits_walk x.r (by have := hx.r0; omega) hx.r1 W
   have hds := digs_size x.r hx.r0 hx.r1
   have hxs := hx.x
   have hsep : j ≠ 0 → ∀ W, (Op.stringOp .add o ⟨#[32, 44, 32]⟩).run Tryz.prog W = .ok (.string p0) W := fun h0 W => add_run o sepW p0 (by rw [← hp0, if_neg h0]) (by omega) W
   have hst : j = 0 → p0 = o := fun h0 => by rw [← hp0, if_pos h0]
   have hk123 : x.k = 1 ∨ x.k = 2 ∨ x.k = 3 := by
    unfold atomB at hax
    by_cases h3 : x.k = 3
    ·exact .inr (.inr h3)
    ·rw [if_neg h3] at hax
     simp at hax
     omega
   have HSEP := Lib.hid hsep; have HST := Lib.hid hst
   clear hjl hx hax htk hall hs0 hs1 hp0 hnx hsep hst
   rcases hk123 with hk | hk | hk
   ·have hk1 : (x.k == 1) = true := by simp; omega
    have hk2 : (x.k == 2) = false := by simp; omega
    have hk3 : (x.k == 3) = false := by simp; omega
    have HK := Lib.hid hk
    have hfin : p0 ++ getW ++ digs x.r = joinT ((u.take (j + 1)).map textA) := by rw [HNX.out]; unfold textA; rw [if_pos hk]; rw [ByteArray.append_assoc]
    have hsz0 : (getW : ByteArray).size = 4 := rfl
    have hr2 := add_run p0 getW _ rfl (by rw [ByteArray.size_append]; omega)
    have hr3 := add_run (p0 ++ getW) (digs x.r) _ hfin (by have := HSZ1.out; omega)
    unfold getW at hr2 hr3
    generalize ho2 : joinT ((u.take (j + 1)).map textA) = out2 at *
    have HO2 := Lib.hid ho2
    clear ho2
    clear hfin hk hds hxs hsz0
    have HDG2 := Lib.hid fun W => show Calls Tryz.prog 22 #[.int .i64 x.r] W fun e w' => e = .returned (.string (digs x.r)) ∧ Below W.heap.size W w' from HDG.out W
    generalize digs x.r = dg at *
    by_cases h0 : j = 0
    ·have hpe := HST.out h0
     rw [hpe] at hr2 hr3
     have hjz : j < 1 := by omega
     clear hpe h0
     go_wp2_with (fail)
     refine (HDG2.out _).mono ?_
     rintro e w2 ⟨rfl, hb2⟩
     have HS2 := Lib.hid (below_then HS.out hb2 HS.out.size)
     have e0b := (hb2.cell (p := ⟨b, q + j * 3, none⟩) (World.block_lt_of_cell? wr _ e0)).trans e0
     clear hb2 e0 e1 e2
     go_wp2_with (fail)
     go_roundw
     case rel => exact ⟨j + 1, out2, by omega, by go_num, rfl, Lib.hid HO2.out.symm, HS2⟩
     case measure => simp [intOf]; omega
    ·have hsp := HSEP.out h0
     have hjz : 0 < j := by omega
     clear h0
     go_wp2_with (fail)
     refine (HDG2.out _).mono ?_
     rintro e w2 ⟨rfl, hb2⟩
     have HS2 := Lib.hid (below_then HS.out hb2 HS.out.size)
     have e0b := (hb2.cell (p := ⟨b, q + j * 3, none⟩) (World.block_lt_of_cell? wr _ e0)).trans e0
     clear hb2 e0 e1 e2
     go_wp2_with (fail)
     go_roundw
     case rel => exact ⟨j + 1, out2, by omega, by go_num, rfl, Lib.hid HO2.out.symm, HS2⟩
     case measure => simp [intOf]; omega
   ·have hk1 : (x.k == 1) = false := by simp; omega
    have hk2 : (x.k == 2) = true := by simp; omega
    have hk3 : (x.k == 3) = false := by simp; omega
    have HK := Lib.hid hk
    have hfin : p0 ++ putW ++ digs x.r = joinT ((u.take (j + 1)).map textA) := by rw [HNX.out]; unfold textA; rw [if_neg (by omega), if_pos hk]; rw [ByteArray.append_assoc]
    have hsz0 : (putW : ByteArray).size = 4 := rfl
    have hr2 := add_run p0 putW _ rfl (by rw [ByteArray.size_append]; omega)
    have hr3 := add_run (p0 ++ putW) (digs x.r) _ hfin (by have := HSZ1.out; omega)
    unfold putW at hr2 hr3
    generalize ho2 : joinT ((u.take (j + 1)).map textA) = out2 at *
    have HO2 := Lib.hid ho2
    clear ho2
    clear hfin hk hds hxs hsz0
    have HDG2 := Lib.hid fun W => show Calls Tryz.prog 22 #[.int .i64 x.r] W fun e w' => e = .returned (.string (digs x.r)) ∧ Below W.heap.size W w' from HDG.out W
    generalize digs x.r = dg at *
    by_cases h0 : j = 0
    ·have hpe := HST.out h0
     rw [hpe] at hr2 hr3
     have hjz : j < 1 := by omega
     clear hpe h0
     go_wp2_with (fail)
     refine (HDG2.out _).mono ?_
     rintro e w2 ⟨rfl, hb2⟩
     have HS2 := Lib.hid (below_then HS.out hb2 HS.out.size)
     have e0b := (hb2.cell (p := ⟨b, q + j * 3, none⟩) (World.block_lt_of_cell? wr _ e0)).trans e0
     clear hb2 e0 e1 e2
     go_wp2_with (fail)
     go_roundw
     case rel => exact ⟨j + 1, out2, by omega, by go_num, rfl, Lib.hid HO2.out.symm, HS2⟩
     case measure => simp [intOf]; omega
    ·have hsp := HSEP.out h0
     have hjz : 0 < j := by omega
     clear h0
     go_wp2_with (fail)
     refine (HDG2.out _).mono ?_
     rintro e w2 ⟨rfl, hb2⟩
     have HS2 := Lib.hid (below_then HS.out hb2 HS.out.size)
     have e0b := (hb2.cell (p := ⟨b, q + j * 3, none⟩) (World.block_lt_of_cell? wr _ e0)).trans e0
     clear hb2 e0 e1 e2
     go_wp2_with (fail)
     go_roundw
     case rel => exact ⟨j + 1, out2, by omega, by go_num, rfl, Lib.hid HO2.out.symm, HS2⟩
     case measure => simp [intOf]; omega
   ·have hk1 : (x.k == 1) = false := by simp; omega
    have hk2 : (x.k == 2) = false := by simp; omega
    have hk3 : (x.k == 3) = true := by simp; omega
    have HK := Lib.hid hk
    have hfin : p0 ++ exnW ++ x.x = joinT ((u.take (j + 1)).map textA) := by rw [HNX.out]; unfold textA; rw [if_neg (by omega), if_neg (by omega)]; rw [ByteArray.append_assoc]
    have hsz0 : (exnW : ByteArray).size = 4 := rfl
    have hr2 := add_run p0 exnW _ rfl (by rw [ByteArray.size_append]; omega)
    have hr3 := add_run (p0 ++ exnW) (x.x) _ hfin (by have := HSZ1.out; omega)
    unfold exnW at hr2 hr3
    generalize ho2 : joinT ((u.take (j + 1)).map textA) = out2 at *
    have HO2 := Lib.hid ho2
    clear ho2
    clear hfin hk hds hxs hsz0
    by_cases h0 : j = 0
    ·have hpe := HST.out h0
     rw [hpe] at hr2 hr3
     have hjz : j < 1 := by omega
     clear hpe h0
     go_wp2_with (fail)
     go_roundw
     case rel => exact ⟨j + 1, out2, by omega, by go_num, rfl, Lib.hid HO2.out.symm, HS⟩
     case measure => simp [intOf]; omega
    ·have hsp := HSEP.out h0
     have hjz : 0 < j := by omega
     clear h0
     go_wp2_with (fail)
     go_roundw
     case rel => exact ⟨j + 1, out2, by omega, by go_num, rfl, Lib.hid HO2.out.symm, HS⟩
     case measure => simp [intOf]; omega
  ·obtain rfl : j = m := by omega
   have ho := HO.out
   rw [List.take_of_length_le (by rw [HUL.out]; exact Nat.le_refl _)] at ho
   have HOF := Lib.hid ho
   have HBB := Lib.hid (below_then HB.out HS.out HB.out.size)
   clear ho
   by_cases h0 : j = 0
   ·subst h0
    have HU := Lib.hid (List.eq_nil_of_length_eq_zero HUL.out)
    go_wp2_with (fail)
    go_ret
    exact ⟨ret_str (by unfold textE; rw [if_pos HU.out]; rfl), HBB.out⟩
   ·have HU := Lib.hid (show u ≠ [] from fun e => h0 (by have := HUL.out; rw [e] at this; exact this.symm))
    go_wp2_with (fail)
    go_ret
    exact ⟨ret_str (by unfold textE; rw [if_neg HU.out]; exact HOF.out), HBB.out⟩
end Effect
end Go.Proofs.YtkfkpjngiffamaaGreatDoor
