import Derived.Test.YtkfkpjngiffamaaGreatDoorGC11
import Derived.Test.YtkfkpjngiffamaaGreatDoorGC09
import Derived.Test.YtkfkpjngiffamaaGreatDoorGC16
import Derived.Test.YtkfkpjngiffamaaGreatDoorGC21
import Derived.LoopTactic
import Derived.Test.YtkfkpjngiffamaaGreatDoorGC15
namespace Go.Proofs.YtkfkpjngiffamaaGreatDoor
open Go.RowKit
set_option linter.unusedVariables false
set_option linter.unusedSimpArgs false
namespace Rt
open Effect (At AtOk AtsAt Rd ofA ret_i64 ret_bool lt_of_block heap_alloc_new textE digs add_run)
open Types (jb jb_list bl bl_append bl_inj bl_app bl_cons bl_one jb_one wInt wOpen wShut wStar wRef wArrow)

def TextIs (w0 : World) (m : Nat) : Prop := ∀ (t : RT) (h : Hd) (pe : Option Addr) (ne ce : Nat) (p : Option Addr) (l c : Nat) (w : World), wt t ≤ m → mayT t = true → allT (effB 1000) t = true → (jb (wordsT t)).size ≤ 100000000 → RtIs w0 h pe ne ce p l c t → Below w0.heap.size w0 w →
 Calls Tryz.prog 23 #[.agg #[.int .u8 h.k, .int .i64 h.r, .slice pe ne ce, .slice p l c]] w fun e w' => e = .returned (.string (jb (wordsT t))) ∧ Below w.heap.size w w'
set_option maxRecDepth 100000 in
set_option maxHeartbeats 6400000 in
theorem ref_1 (w0 : World) (m : Nat) (hT : TextIs w0 m) (t : RT) (v : Int) (e : List At) (pe : Option Addr) (ne ce : Nat) (p : Option Addr) (l c : Nat) (w : World) (hm : wt t ≤ m + 1) (hok : mayT t = true) (hef : allT (effB 1000) t = true) (hsz : (jb (wordsT t)).size ≤ 100000000) (hI : RtIs w0 ⟨1, v, e⟩ pe ne ce p l c t) (hb : Below w0.heap.size w0 w) :
  Calls Tryz.prog 23 #[.agg #[.int .u8 1, .int .i64 v, .slice pe ne ce, .slice p l c]] w fun e w' => e = .returned (.string (jb (wordsT t))) ∧ Below w.heap.size w w' := by
 have ew : wordsT t = [wInt] := by rw [wordsT_eq, hI.head]; rfl
 rw [ew, jb_one]
 clear hT hI hb ew hok hsz hef
 go_enter Tryz.func23, Tryz.ntmps23
 go_wp2_with (fail)
 go_ret
 exact ⟨rfl, box_new _⟩

set_option maxRecDepth 100000 in
set_option maxHeartbeats 6400000 in
theorem ref_2 (w0 : World) (m : Nat) (hT : TextIs w0 m) (t : RT) (v : Int) (e : List At) (pe : Option Addr) (ne ce : Nat) (p : Option Addr) (l c : Nat) (w : World) (hm : wt t ≤ m + 1) (hok : mayT t = true) (hef : allT (effB 1000) t = true) (hsz : (jb (wordsT t)).size ≤ 100000000) (hI : RtIs w0 ⟨2, v, e⟩ pe ne ce p l c t) (hb : Below w0.heap.size w0 w) :
  Calls Tryz.prog 23 #[.agg #[.int .u8 2, .int .i64 v, .slice pe ne ce, .slice p l c]] w fun e w' => e = .returned (.string (jb (wordsT t))) ∧ Below w.heap.size w w' := by
 have hlen := hI.len
 have hnode := (may_node hok).1
 rw [hI.head] at hnode
 have hcap := hI.cap
 have hef2 := hef
 rw [allT_eq, Bool.and_eq_true, hI.head] at hef2
 have hv1 := hI.ok.r
 simp only at hv1
 obtain rfl : l = 2 := by simp at hnode; omega
 obtain ⟨b, o, rfl, hk⟩ := kid_at hI (by omega)
 obtain ⟨qe0, de0, q0, d0, hI0, hc0⟩ := hk 0 (by omega)
 have ok0 := may_kid hok (i := 0) (by omega)
 have ef0 := allK_get _ (j := 0) (by omega) hef2.2
 have ne0 := words_nil ok0
 rw [show o + 0 * 4 = o from by omega] at hc0
 obtain ⟨qe1, de1, q1, d1, hI1, hc1⟩ := hk 1 (by omega)
 have ok1 := may_kid hok (i := 1) (by omega)
 have ef1 := allK_get _ (j := 1) (by omega) hef2.2
 have ne1 := words_nil ok1
 rw [show o + 1 * 4 = o + 4 from by omega] at hc1
 have hww := wt2 (t := t) (by omega)
 have hkd0 := kw_get (show 0 < t.ks.length by omega)
 have hkd1 := kw_get (show 1 < t.ks.length by omega)
 have ew : jb (wordsT t) = (((((⟨#[40, 32]⟩ : ByteArray) ++ jb (wordsT (tget t.ks 0))) ++ (⟨#[32, 42, 32]⟩ : ByteArray)) ++ jb (wordsT (tget t.ks 1))) ++ (((⟨#[32, 64, 32]⟩ : ByteArray) ++ digs v) ++ (⟨#[32, 41]⟩ : ByteArray))) := by
  rw [wordsT_eq, hI.head]
  unfold comb
  apply bl_inj
  simp [hkd0, hkd1, bl_append, bl_app, bl_cons, bl_one, List.append_assoc, ne0, ne1]
  try simp [bl, wOpen, wShut, wStar, wRef, wArrow, wAt, wBang]
 rw [ew] at hsz ⊢
 simp only [ByteArray.size_append] at hsz
 have hz1 := add_run (⟨#[32, 64, 32]⟩ : ByteArray) (digs v) _ rfl (by simp only [ByteArray.size_append]; omega)
 have hz2 := add_run ((⟨#[32, 64, 32]⟩ : ByteArray) ++ digs v) (⟨#[32, 41]⟩ : ByteArray) _ rfl (by simp only [ByteArray.size_append]; omega)
 have ha0 := add_run ((⟨#[40, 32]⟩ : ByteArray)) (jb (wordsT (tget t.ks 0))) _ rfl (by simp only [ByteArray.size_append]; omega)
 have ha1 := add_run (((⟨#[40, 32]⟩ : ByteArray) ++ jb (wordsT (tget t.ks 0)))) ((⟨#[32, 42, 32]⟩ : ByteArray)) _ rfl (by simp only [ByteArray.size_append]; omega)
 have ha2 := add_run ((((⟨#[40, 32]⟩ : ByteArray) ++ jb (wordsT (tget t.ks 0))) ++ (⟨#[32, 42, 32]⟩ : ByteArray))) (jb (wordsT (tget t.ks 1))) _ rfl (by simp only [ByteArray.size_append]; omega)
 have ha3 := add_run (((((⟨#[40, 32]⟩ : ByteArray) ++ jb (wordsT (tget t.ks 0))) ++ (⟨#[32, 42, 32]⟩ : ByteArray)) ++ jb (wordsT (tget t.ks 1)))) ((((⟨#[32, 64, 32]⟩ : ByteArray) ++ digs v) ++ (⟨#[32, 41]⟩ : ByteArray))) _ rfl (by simp only [ByteArray.size_append]; omega)
 have hp0 := fun W hb => hT (tget t.ks 0) _ qe0 _ de0 q0 _ d0 W (by omega) ok0 ef0 (by omega) hI0 hb
 have hp1 := fun W hb => hT (tget t.ks 1) _ qe1 _ de1 q1 _ d1 W (by omega) ok1 ef1 (by omega) hI1 hb
 have hdg := fun O => Effect.refDigits_walk v hv1.1 hv1.2 (w.alloc O)
 have hdv : (⟨(Lib.itoa v).toArray⟩ : ByteArray) = digs v := rfl
 rw [hdv] at hdg
 have hX : ∀ W, Below (w.alloc (.cells #[.int .u8 2, .int .i64 v, .slice pe ne ce, .slice (some ⟨b, o, none⟩) 2 c] 28)).heap.size (w.alloc (.cells #[.int .u8 2, .int .i64 v, .slice pe ne ce, .slice (some ⟨b, o, none⟩) 2 c] 28)) W → W.cell? ⟨w.heap.size, 0, none⟩ = some (.int .u8 2) ∧ W.cell? ⟨w.heap.size, 1, none⟩ = some (.int .i64 v) ∧ W.cell? ⟨w.heap.size, 2, none⟩ = some (.slice pe ne ce) ∧ W.cell? ⟨w.heap.size, 3, none⟩ = some (.slice (some ⟨b, o, none⟩) 2 c) := fun W hb => box4 rfl hb
 have hcl : c ≤ 9223372036854775807 := hcap.2
 have hcq := hcap.1
 have HB := Lib.hid hb; have HX := Lib.hid hX; have HD := Lib.hid hdg; have HP0 := Lib.hid hp0; have HC0 := Lib.hid hc0; have HP1 := Lib.hid hp1; have HC1 := Lib.hid hc1
 clear hb hX hT hI hok hm hlen hnode hcap hk hww hsz ew hdg hdv hef hef2 hv1 hkd0 hp0 hc0 hI0 ok0 ef0 ne0 hkd1 hp1 hc1 hI1 ok1 ef1 ne1
 generalize digs v = dv at *
 generalize jb (wordsT (tget t.ks 0)) = J0 at *
 generalize jb (wordsT (tget t.ks 1)) = J1 at *
 generalize ((⟨#[32, 64, 32]⟩ : ByteArray) ++ dv : ByteArray) = Z1 at *
 generalize (Z1 ++ (⟨#[32, 41]⟩ : ByteArray) : ByteArray) = Z2 at *
 generalize ((⟨#[40, 32]⟩ : ByteArray) ++ J0 : ByteArray) = X0 at *
 generalize (X0 ++ (⟨#[32, 42, 32]⟩ : ByteArray) : ByteArray) = X1 at *
 generalize (X1 ++ J1 : ByteArray) = X2 at *
 generalize (X2 ++ Z2 : ByteArray) = X3 at *
 go_enter Tryz.func23, Tryz.ntmps23
 go_wp2_with (fail)
 refine (HD.out _).mono ?_
 rintro en wz ⟨rfl, hbz⟩
 have HBZ := Lib.hid hbz
 obtain ⟨c0, c1, c2, c3⟩ := HX.out _ hbz
 have hbwz := below_row (Below.refl w.heap.size w) hbz (Nat.le_refl _)
 have HWZ := Lib.hid hbwz
 obtain ⟨a0, a1, a2, a3⟩ := HC0.out _ (HB.out.trans (hbwz.mono HB.out.size))
 clear hbz hbwz
 go_wp2_with (fail)
 refine (HP0.out _ (HB.out.trans (HWZ.out.mono HB.out.size))).mono ?_
 rintro en w1 ⟨rfl, hb1⟩
 have HB1 := Lib.hid (below_then HBZ.out hb1 HBZ.out.size)
 have HW1 := Lib.hid (below_then HWZ.out hb1 HWZ.out.size)
 clear hb1 c0 c1 c2 c3 a0 a1 a2 a3
 obtain ⟨c0, c1, c2, c3⟩ := HX.out _ HB1.out
 obtain ⟨g0, g1, g2, g3⟩ := HC1.out _ (HB.out.trans (HW1.out.mono HB.out.size))
 go_wp2_with (fail)
 refine (HP1.out _ (HB.out.trans (HW1.out.mono HB.out.size))).mono ?_
 rintro en w2 ⟨rfl, hb2⟩
 have HB2 := Lib.hid (below_then HB1.out hb2 HB1.out.size)
 have HW2 := Lib.hid (below_then HW1.out hb2 HW1.out.size)
 clear hb2 c0 c1 c2 c3 g0 g1 g2 g3
 obtain ⟨c0, c1, c2, c3⟩ := HX.out _ HB2.out
 go_wp2_with (fail)
 go_ret
 exact ⟨rfl, HW2.out⟩

set_option maxRecDepth 100000 in
set_option maxHeartbeats 6400000 in
theorem ref_3 (w0 : World) (m : Nat) (hT : TextIs w0 m) (t : RT) (v : Int) (e : List At) (pe : Option Addr) (ne ce : Nat) (p : Option Addr) (l c : Nat) (w : World) (hm : wt t ≤ m + 1) (hok : mayT t = true) (hef : allT (effB 1000) t = true) (hsz : (jb (wordsT t)).size ≤ 100000000) (hI : RtIs w0 ⟨3, v, e⟩ pe ne ce p l c t) (hb : Below w0.heap.size w0 w) :
  Calls Tryz.prog 23 #[.agg #[.int .u8 3, .int .i64 v, .slice pe ne ce, .slice p l c]] w fun e w' => e = .returned (.string (jb (wordsT t))) ∧ Below w.heap.size w w' := by
 have hlen := hI.len
 have hnode := (may_node hok).1
 rw [hI.head] at hnode
 have hcap := hI.cap
 have hef2 := hef
 rw [allT_eq, Bool.and_eq_true, hI.head] at hef2
 have hv1 := hI.ok.r
 simp only at hv1
 obtain rfl : l = 1 := by simp at hnode; omega
 obtain ⟨b, o, rfl, hk⟩ := kid_at hI (by omega)
 obtain ⟨qe0, de0, q0, d0, hI0, hc0⟩ := hk 0 (by omega)
 have ok0 := may_kid hok (i := 0) (by omega)
 have ef0 := allK_get _ (j := 0) (by omega) hef2.2
 have ne0 := words_nil ok0
 rw [show o + 0 * 4 = o from by omega] at hc0
 have hww := wt1 (t := t) (by omega)
 have hkd0 := kw_get (show 0 < t.ks.length by omega)
 have ew : jb (wordsT t) = (((⟨#[40, 32, 114, 101, 102, 32]⟩ : ByteArray) ++ jb (wordsT (tget t.ks 0))) ++ (((⟨#[32, 64, 32]⟩ : ByteArray) ++ digs v) ++ (⟨#[32, 41]⟩ : ByteArray))) := by
  rw [wordsT_eq, hI.head]
  unfold comb
  apply bl_inj
  simp [hkd0, bl_append, bl_app, bl_cons, bl_one, List.append_assoc, ne0]
  try simp [bl, wOpen, wShut, wStar, wRef, wArrow, wAt, wBang]
 rw [ew] at hsz ⊢
 simp only [ByteArray.size_append] at hsz
 have hz1 := add_run (⟨#[32, 64, 32]⟩ : ByteArray) (digs v) _ rfl (by simp only [ByteArray.size_append]; omega)
 have hz2 := add_run ((⟨#[32, 64, 32]⟩ : ByteArray) ++ digs v) (⟨#[32, 41]⟩ : ByteArray) _ rfl (by simp only [ByteArray.size_append]; omega)
 have ha0 := add_run ((⟨#[40, 32, 114, 101, 102, 32]⟩ : ByteArray)) (jb (wordsT (tget t.ks 0))) _ rfl (by simp only [ByteArray.size_append]; omega)
 have ha1 := add_run (((⟨#[40, 32, 114, 101, 102, 32]⟩ : ByteArray) ++ jb (wordsT (tget t.ks 0)))) ((((⟨#[32, 64, 32]⟩ : ByteArray) ++ digs v) ++ (⟨#[32, 41]⟩ : ByteArray))) _ rfl (by simp only [ByteArray.size_append]; omega)
 have hp0 := fun W hb => hT (tget t.ks 0) _ qe0 _ de0 q0 _ d0 W (by omega) ok0 ef0 (by omega) hI0 hb
 have hdg := fun O => Effect.refDigits_walk v hv1.1 hv1.2 (w.alloc O)
 have hdv : (⟨(Lib.itoa v).toArray⟩ : ByteArray) = digs v := rfl
 rw [hdv] at hdg
 have hX : ∀ W, Below (w.alloc (.cells #[.int .u8 3, .int .i64 v, .slice pe ne ce, .slice (some ⟨b, o, none⟩) 1 c] 28)).heap.size (w.alloc (.cells #[.int .u8 3, .int .i64 v, .slice pe ne ce, .slice (some ⟨b, o, none⟩) 1 c] 28)) W → W.cell? ⟨w.heap.size, 0, none⟩ = some (.int .u8 3) ∧ W.cell? ⟨w.heap.size, 1, none⟩ = some (.int .i64 v) ∧ W.cell? ⟨w.heap.size, 2, none⟩ = some (.slice pe ne ce) ∧ W.cell? ⟨w.heap.size, 3, none⟩ = some (.slice (some ⟨b, o, none⟩) 1 c) := fun W hb => box4 rfl hb
 have hcl : c ≤ 9223372036854775807 := hcap.2
 have hcq := hcap.1
 have HB := Lib.hid hb; have HX := Lib.hid hX; have HD := Lib.hid hdg; have HP0 := Lib.hid hp0; have HC0 := Lib.hid hc0
 clear hb hX hT hI hok hm hlen hnode hcap hk hww hsz ew hdg hdv hef hef2 hv1 hkd0 hp0 hc0 hI0 ok0 ef0 ne0
 generalize digs v = dv at *
 generalize jb (wordsT (tget t.ks 0)) = J0 at *
 generalize ((⟨#[32, 64, 32]⟩ : ByteArray) ++ dv : ByteArray) = Z1 at *
 generalize (Z1 ++ (⟨#[32, 41]⟩ : ByteArray) : ByteArray) = Z2 at *
 generalize ((⟨#[40, 32, 114, 101, 102, 32]⟩ : ByteArray) ++ J0 : ByteArray) = X0 at *
 generalize (X0 ++ Z2 : ByteArray) = X1 at *
 go_enter Tryz.func23, Tryz.ntmps23
 go_wp2_with (fail)
 refine (HD.out _).mono ?_
 rintro en wz ⟨rfl, hbz⟩
 have HBZ := Lib.hid hbz
 obtain ⟨c0, c1, c2, c3⟩ := HX.out _ hbz
 have hbwz := below_row (Below.refl w.heap.size w) hbz (Nat.le_refl _)
 have HWZ := Lib.hid hbwz
 obtain ⟨a0, a1, a2, a3⟩ := HC0.out _ (HB.out.trans (hbwz.mono HB.out.size))
 clear hbz hbwz
 go_wp2_with (fail)
 refine (HP0.out _ (HB.out.trans (HWZ.out.mono HB.out.size))).mono ?_
 rintro en w1 ⟨rfl, hb1⟩
 have HB1 := Lib.hid (below_then HBZ.out hb1 HBZ.out.size)
 have HW1 := Lib.hid (below_then HWZ.out hb1 HWZ.out.size)
 clear hb1 c0 c1 c2 c3 a0 a1 a2 a3
 obtain ⟨c0, c1, c2, c3⟩ := HX.out _ HB1.out
 go_wp2_with (fail)
 go_ret
 exact ⟨rfl, HW1.out⟩

set_option maxRecDepth 100000 in
set_option maxHeartbeats 6400000 in
theorem ref_4 (w0 : World) (m : Nat) (hT : TextIs w0 m) (t : RT) (v : Int) (e : List At) (pe : Option Addr) (ne ce : Nat) (p : Option Addr) (l c : Nat) (w : World) (hm : wt t ≤ m + 1) (hok : mayT t = true) (hef : allT (effB 1000) t = true) (hsz : (jb (wordsT t)).size ≤ 100000000) (hI : RtIs w0 ⟨4, v, e⟩ pe ne ce p l c t) (hb : Below w0.heap.size w0 w) :
  Calls Tryz.prog 23 #[.agg #[.int .u8 4, .int .i64 v, .slice pe ne ce, .slice p l c]] w fun e w' => e = .returned (.string (jb (wordsT t))) ∧ Below w.heap.size w w' := by
 have hlen := hI.len
 have hnode := (may_node hok).1
 rw [hI.head] at hnode
 have hcap := hI.cap
 have hef2 := hef
 rw [allT_eq, Bool.and_eq_true, hI.head] at hef2
 have hv1 := hI.ok.r
 simp only at hv1
 obtain rfl : l = 2 := by simp at hnode; omega
 obtain ⟨b, o, rfl, hk⟩ := kid_at hI (by omega)
 obtain ⟨qe0, de0, q0, d0, hI0, hc0⟩ := hk 0 (by omega)
 have ok0 := may_kid hok (i := 0) (by omega)
 have ef0 := allK_get _ (j := 0) (by omega) hef2.2
 have ne0 := words_nil ok0
 rw [show o + 0 * 4 = o from by omega] at hc0
 obtain ⟨qe1, de1, q1, d1, hI1, hc1⟩ := hk 1 (by omega)
 have ok1 := may_kid hok (i := 1) (by omega)
 have ef1 := allK_get _ (j := 1) (by omega) hef2.2
 have ne1 := words_nil ok1
 rw [show o + 1 * 4 = o + 4 from by omega] at hc1
 have hww := wt2 (t := t) (by omega)
 have hkd0 := kw_get (show 0 < t.ks.length by omega)
 have hkd1 := kw_get (show 1 < t.ks.length by omega)
 have ew : jb (wordsT t) = (((((((⟨#[40, 32]⟩ : ByteArray) ++ jb (wordsT (tget t.ks 0))) ++ (⟨#[32, 45, 62, 32]⟩ : ByteArray)) ++ jb (wordsT (tget t.ks 1))) ++ (⟨#[32, 33, 32]⟩ : ByteArray)) ++ textE (ofA e)) ++ (((⟨#[32, 64, 32]⟩ : ByteArray) ++ digs v) ++ (⟨#[32, 41]⟩ : ByteArray))) := by
  rw [wordsT_eq, hI.head]
  unfold comb
  apply bl_inj
  simp [hkd0, hkd1, bl_append, bl_app, bl_cons, bl_one, List.append_assoc, ne0, ne1]
  try simp [bl, wOpen, wShut, wStar, wRef, wArrow, wAt, wBang]
 rw [ew] at hsz ⊢
 simp only [ByteArray.size_append] at hsz
 have hz1 := add_run (⟨#[32, 64, 32]⟩ : ByteArray) (digs v) _ rfl (by simp only [ByteArray.size_append]; omega)
 have hz2 := add_run ((⟨#[32, 64, 32]⟩ : ByteArray) ++ digs v) (⟨#[32, 41]⟩ : ByteArray) _ rfl (by simp only [ByteArray.size_append]; omega)
 have ha0 := add_run ((⟨#[40, 32]⟩ : ByteArray)) (jb (wordsT (tget t.ks 0))) _ rfl (by simp only [ByteArray.size_append]; omega)
 have ha1 := add_run (((⟨#[40, 32]⟩ : ByteArray) ++ jb (wordsT (tget t.ks 0)))) ((⟨#[32, 45, 62, 32]⟩ : ByteArray)) _ rfl (by simp only [ByteArray.size_append]; omega)
 have ha2 := add_run ((((⟨#[40, 32]⟩ : ByteArray) ++ jb (wordsT (tget t.ks 0))) ++ (⟨#[32, 45, 62, 32]⟩ : ByteArray))) (jb (wordsT (tget t.ks 1))) _ rfl (by simp only [ByteArray.size_append]; omega)
 have ha3 := add_run (((((⟨#[40, 32]⟩ : ByteArray) ++ jb (wordsT (tget t.ks 0))) ++ (⟨#[32, 45, 62, 32]⟩ : ByteArray)) ++ jb (wordsT (tget t.ks 1)))) ((⟨#[32, 33, 32]⟩ : ByteArray)) _ rfl (by simp only [ByteArray.size_append]; omega)
 have ha4 := add_run ((((((⟨#[40, 32]⟩ : ByteArray) ++ jb (wordsT (tget t.ks 0))) ++ (⟨#[32, 45, 62, 32]⟩ : ByteArray)) ++ jb (wordsT (tget t.ks 1))) ++ (⟨#[32, 33, 32]⟩ : ByteArray))) (textE (ofA e)) _ rfl (by simp only [ByteArray.size_append]; omega)
 have ha5 := add_run (((((((⟨#[40, 32]⟩ : ByteArray) ++ jb (wordsT (tget t.ks 0))) ++ (⟨#[32, 45, 62, 32]⟩ : ByteArray)) ++ jb (wordsT (tget t.ks 1))) ++ (⟨#[32, 33, 32]⟩ : ByteArray)) ++ textE (ofA e))) ((((⟨#[32, 64, 32]⟩ : ByteArray) ++ digs v) ++ (⟨#[32, 41]⟩ : ByteArray))) _ rfl (by simp only [ByteArray.size_append]; omega)
 have hp0 := fun W hb => hT (tget t.ks 0) _ qe0 _ de0 q0 _ d0 W (by omega) ok0 ef0 (by omega) hI0 hb
 have hp1 := fun W hb => hT (tget t.ks 1) _ qe1 _ de1 q1 _ d1 W (by omega) ok1 ef1 (by omega) hI1 hb
 have hdg := fun O => Effect.refDigits_walk v hv1.1 hv1.2 (w.alloc O)
 have hdv : (⟨(Lib.itoa v).toArray⟩ : ByteArray) = digs v := rfl
 rw [hdv] at hdg
 have hte := fun W hb => Effect.refText_walk (w := W) (c := ce) (hI.eff.below hb).rd (by rw [← hI.elen]; exact (eff_iff.1 hef2.1).1) (sh_eff hI.ok.e (eff_iff.1 hef2.1).2 (Nat.le_refl _))
 have hX : ∀ W, Below (w.alloc (.cells #[.int .u8 4, .int .i64 v, .slice pe ne ce, .slice (some ⟨b, o, none⟩) 2 c] 28)).heap.size (w.alloc (.cells #[.int .u8 4, .int .i64 v, .slice pe ne ce, .slice (some ⟨b, o, none⟩) 2 c] 28)) W → W.cell? ⟨w.heap.size, 0, none⟩ = some (.int .u8 4) ∧ W.cell? ⟨w.heap.size, 1, none⟩ = some (.int .i64 v) ∧ W.cell? ⟨w.heap.size, 2, none⟩ = some (.slice pe ne ce) ∧ W.cell? ⟨w.heap.size, 3, none⟩ = some (.slice (some ⟨b, o, none⟩) 2 c) := fun W hb => box4 rfl hb
 have hcl : c ≤ 9223372036854775807 := hcap.2
 have hcq := hcap.1
 have HB := Lib.hid hb; have HX := Lib.hid hX; have HD := Lib.hid hdg; have HTE := Lib.hid hte; have HP0 := Lib.hid hp0; have HC0 := Lib.hid hc0; have HP1 := Lib.hid hp1; have HC1 := Lib.hid hc1
 clear hb hX hT hI hok hm hlen hnode hcap hk hww hsz ew hdg hdv hef hef2 hv1 hte hkd0 hp0 hc0 hI0 ok0 ef0 ne0 hkd1 hp1 hc1 hI1 ok1 ef1 ne1
 generalize digs v = dv at *
 generalize jb (wordsT (tget t.ks 0)) = J0 at *
 generalize jb (wordsT (tget t.ks 1)) = J1 at *
 generalize textE (ofA e) = te at *
 generalize ((⟨#[32, 64, 32]⟩ : ByteArray) ++ dv : ByteArray) = Z1 at *
 generalize (Z1 ++ (⟨#[32, 41]⟩ : ByteArray) : ByteArray) = Z2 at *
 generalize ((⟨#[40, 32]⟩ : ByteArray) ++ J0 : ByteArray) = X0 at *
 generalize (X0 ++ (⟨#[32, 45, 62, 32]⟩ : ByteArray) : ByteArray) = X1 at *
 generalize (X1 ++ J1 : ByteArray) = X2 at *
 generalize (X2 ++ (⟨#[32, 33, 32]⟩ : ByteArray) : ByteArray) = X3 at *
 generalize (X3 ++ te : ByteArray) = X4 at *
 generalize (X4 ++ Z2 : ByteArray) = X5 at *
 go_enter Tryz.func23, Tryz.ntmps23
 go_wp2_with (fail)
 refine (HD.out _).mono ?_
 rintro en wz ⟨rfl, hbz⟩
 have HBZ := Lib.hid hbz
 obtain ⟨c0, c1, c2, c3⟩ := HX.out _ hbz
 have hbwz := below_row (Below.refl w.heap.size w) hbz (Nat.le_refl _)
 have HWZ := Lib.hid hbwz
 obtain ⟨a0, a1, a2, a3⟩ := HC0.out _ (HB.out.trans (hbwz.mono HB.out.size))
 clear hbz hbwz
 go_wp2_with (fail)
 refine (HP0.out _ (HB.out.trans (HWZ.out.mono HB.out.size))).mono ?_
 rintro en w1 ⟨rfl, hb1⟩
 have HB1 := Lib.hid (below_then HBZ.out hb1 HBZ.out.size)
 have HW1 := Lib.hid (below_then HWZ.out hb1 HWZ.out.size)
 clear hb1 c0 c1 c2 c3 a0 a1 a2 a3
 obtain ⟨c0, c1, c2, c3⟩ := HX.out _ HB1.out
 obtain ⟨g0, g1, g2, g3⟩ := HC1.out _ (HB.out.trans (HW1.out.mono HB.out.size))
 go_wp2_with (fail)
 refine (HP1.out _ (HB.out.trans (HW1.out.mono HB.out.size))).mono ?_
 rintro en w2 ⟨rfl, hb2⟩
 have HB2 := Lib.hid (below_then HB1.out hb2 HB1.out.size)
 have HW2 := Lib.hid (below_then HW1.out hb2 HW1.out.size)
 clear hb2 c0 c1 c2 c3 g0 g1 g2 g3
 obtain ⟨c0, c1, c2, c3⟩ := HX.out _ HB2.out
 go_wp2_with (fail)
 refine (HTE.out _ (HB.out.trans (HW2.out.mono HB.out.size))).mono ?_
 rintro en w3 ⟨rfl, hb3⟩
 have HW3 := Lib.hid (below_then HW2.out hb3 HW2.out.size)
 clear hb3 c0 c1 c2 c3
 go_wp2_with (fail)
 go_ret
 exact ⟨rfl, HW3.out⟩

theorem refText_all (w0 : World) : ∀ m, TextIs w0 m := by
 intro m
 induction m with
 | zero =>
  intro t h pe ne ce p l c w hm
  have := wt_pos t
  omega
 | succ m ih =>
  intro t h pe ne ce p l c w hm hok hef hsz hI hb
  have hk := (may_node hok).1
  rw [hI.head] at hk
  obtain ⟨k, v, e⟩ := h
  simp only at hk
  have hh : k = 1 ∨ k = 2 ∨ k = 3 ∨ k = 4 := by omega
  rcases hh with rfl | rfl | rfl | rfl
  ·exact ref_1 w0 m ih t v e pe ne ce p l c w hm hok hef hsz hI hb
  ·exact ref_2 w0 m ih t v e pe ne ce p l c w hm hok hef hsz hI hb
  ·exact ref_3 w0 m ih t v e pe ne ce p l c w hm hok hef hsz hI hb
  ·exact ref_4 w0 m ih t v e pe ne ce p l c w hm hok hef hsz hI hb
end Rt
end Go.Proofs.YtkfkpjngiffamaaGreatDoor
namespace Go.Proofs.YtkfkpjngiffamaaGreatDoor
open Go.RowKit
set_option linter.unusedVariables false
set_option linter.unusedSimpArgs false
namespace Disp
open Effect (At AtOk AtsAt Rd RdI ofA ret_i64 ret_bool lt_of_block heap_alloc_new own_slice digs NumLaid textE)
open Aterm (AT Hd V AtIs HdIs acells tget wt wts nodeB allT allK smallB Box box_of at_load exec_at range_below of_world atInfo)
open Rt (box_new below_then kw wAt wBang)
open Types (jb bl bl_inj bl_append bl_app bl_cons bl_one jb_one wInt wOpen wShut wStar wRef wArrow)

theorem add_run (a b c : ByteArray) (h : a ++ b = c) (hs : c.size ≤ 1000000000000) (W : World) : (Op.stringOp .add a b).run Tryz.prog W = .ok (.string c) W := by
 rw [run_string_add_sum, h]
 have : c.size = a.size + b.size := by rw [← h, ByteArray.size_append]
 omega
theorem ret_str {a b : ByteArray} (h : a = b) : Ending.returned (.string a) = .returned (.string b) := by rw [h]
theorem drewN_below {B : Nat} {w W : World} (h : Below B w W) (q : Nat) : Below B w (W.drewN q) := ⟨h.os, h.tape, h.output, by simpa [World.drewN] using h.size, h.block⟩
set_option maxHeartbeats 1600000 in
theorem refNum_walk (r : Int) (h0 : -9223372036854775808 ≤ r) (h1 : r ≤ 9223372036854775807) (w : World) :
  Calls Tryz.prog 20 #[.int .i64 r] w fun e w' => e = .returned (.string (digs r)) ∧ Below w.heap.size w w' := by
 have hd := Effect.refDigits_walk r h0 h1 w
 have HD := Lib.hid hd
 clear hd h0 h1
 go_enter Tryz.func20, Tryz.ntmps20
 go_wp2_with (fail)
 refine HD.out.mono ?_
 rintro e w1 ⟨rfl, hb1⟩
 have HB1 := Lib.hid hb1
 clear hb1
 go_wp2_with (fail)
 go_ret
 exact ⟨rfl, HB1.out⟩
def rhA (rs : List Int) : ByteArray := rs.foldl (fun a r => (a ++ ⟨#[32]⟩) ++ digs r) ⟨#[32, 91]⟩
def rhT (rs : List Int) : ByteArray := rhA rs ++ ⟨#[32, 93]⟩
theorem rhA_snoc (rs : List Int) (r : Int) : rhA (rs ++ [r]) = (rhA rs ++ ⟨#[32]⟩) ++ digs r := by unfold rhA; rw [List.foldl_append]; rfl
theorem snoc_ind {P : List Int → Prop} (h0 : P []) (h1 : ∀ l x, P l → P (l ++ [x])) : ∀ l, P l := by
 intro l
 have : ∀ n : Nat, ∀ l : List Int, l.length = n → P l := by
  intro n
  induction n with
  | zero => intro l hl; rw [List.length_eq_zero_iff.1 hl]; exact h0
  | succ n ih =>
   intro l hl
   have hne : l ≠ [] := by rintro rfl; simp at hl
   rw [← List.dropLast_concat_getLast hne]
   exact h1 _ _ (ih _ (by rw [List.length_dropLast]; omega))
 exact this _ l rfl
theorem rhA_bl (rs : List Int) : bl (rhA rs) = 32 :: bl (jb (wBrO :: rs.map digs)) := by
 refine snoc_ind (P := fun rs => bl (rhA rs) = 32 :: bl (jb (wBrO :: rs.map digs))) ?_ ?_ rs
 ·show bl (rhA []) = 32 :: bl (jb [wBrO])
  rw [bl_one]; rfl
 ·intro l x ih
  have e : wBrO :: (l ++ [x]).map digs = (wBrO :: l.map digs) ++ [digs x] := by simp
  show bl (rhA (l ++ [x])) = _
  rw [rhA_snoc, bl_append, bl_append, ih, e, bl_app (by simp) (by simp), bl_one]
  simp [bl]
theorem rhT_bl (rs : List Int) : bl (rhT rs) = 32 :: bl (jb (rhosW rs)) := by
 have e : rhosW rs = (wBrO :: rs.map digs) ++ [wBrC] := by unfold rhosW; simp
 unfold rhT
 rw [bl_append, rhA_bl, e, bl_app (by simp) (by simp), bl_one]
 simp [bl, wBrC]
theorem rhA_size (rs : List Int) (h : ∀ x ∈ rs, 0 ≤ x ∧ x ≤ IMAX) : (rhA rs).size ≤ 2 + 21 * rs.length := by
 revert h
 refine snoc_ind (P := fun rs => (∀ x ∈ rs, 0 ≤ x ∧ x ≤ IMAX) → (rhA rs).size ≤ 2 + 21 * rs.length) ?_ ?_ rs
 ·intro _; show (2 : Nat) ≤ _; simp
 ·intro l x ih h
  have h1 := ih (fun y hy => h y (List.mem_append.2 (.inl hy)))
  have h2 : (digs x).size ≤ 20 := Effect.digs_size x (h x (by simp)).1 (h x (by simp)).2
  have e1 : (⟨#[32]⟩ : ByteArray).size = 1 := rfl
  rw [rhA_snoc, ByteArray.size_append, ByteArray.size_append, List.length_append, List.length_cons, List.length_nil]
  omega
set_option maxRecDepth 10000 in
set_option maxHeartbeats 3200000 in
theorem refRhos_walk (t : AT) (h : Hd) (v : V) (l : Nat) (w0 w : World) (hI : AtIs w0 h v l t) (hb : Below w0.heap.size w0 w) (h50 : h.rhos.length ≤ 50) (hr0 : ∀ x ∈ h.rhos, 0 ≤ x) :
  Calls Tryz.prog 24 #[.agg #[.int .u8 h.h.k, .int .u8 h.h.op, .int .i64 h.h.pl, .int .i64 h.h.n, .string h.h.name, .string h.h.arg, .string h.h.exn, .int .i64 h.rho, .slice v.ra h.rhos.length v.rc, .slice v.ea h.e.length v.ec, .int .u8 h.ty.h.k, .int .i64 h.ty.h.r, .slice v.tea h.ty.h.e.length v.tec, .slice v.tka h.ty.ks.length v.tkc, .int .u8 h.re.h.k, .int .i64 h.re.h.r, .slice v.sea h.re.h.e.length v.sec, .slice v.ska h.re.ks.length v.skc, .slice v.ka l v.kc]] w fun e w' => e = .returned (.string (rhT h.rhos)) ∧ Below w.heap.size w w' := by
 have hrd := fun (W : World) (hbW : Below w0.heap.size w0 W) => hI.ok.rhos.at_
 have hR := hI.ok.rhos
 have hrc := hI.ok.rcap
 have hsz := fun (k : Nat) => rhA_size (h.rhos.take k) (fun x hx => ⟨hr0 x (List.mem_of_mem_take hx), (hR.ok x (List.mem_of_mem_take hx)).2⟩)
 have HR := Lib.hid hR; have HB := Lib.hid hb; have HSZ := Lib.hid hsz; have HR0 := Lib.hid hr0
 have hcl : v.rc ≤ 9223372036854775807 := hrc.2
 have hcq := hrc.1
 clear hrd hR hsz hI hb hrc hr0
 go_enter Tryz.func24, Tryz.ntmps24
 go_upto_region 1 with (fail)
 refine of_world (F := fun V => Below w.heap.size w V ∧ Box V w.heap.size h v l) ⟨box_new _, box_of⟩ ?_
 rintro W0 ⟨hb0, hx0⟩
 generalize hNN : w.heap.size = N1 at hx0 ⊢
 have HB0 := Lib.hid hb0; have HX0 := Lib.hid hx0
 clear hb0 hNN
 obtain ⟨-, -, -, -, -, -, -, -, b8, -, -, -, -, -, -, -, -, -, -⟩ := hx0
 generalize hrs : h.rhos = rs at *
 generalize hnn : rs.length = n at *
 have HN := Lib.hid hnn
 have hn50 : (n : Int) ≤ 50 := by omega
 clear hnn
 go_wp2_with (fail)
 go_loopw [3, 4, 8] (fun s _ i wr => ∃ j : Nat, j ≤ n ∧ i = .int .i64 (j : Int) ∧ s = .string (rhA (rs.take j)) ∧ Hid (Below W0.heap.size W0 wr)) (fun _ _ i _ => n - (intOf i).toNat)
 case atStart => exact ⟨0, Nat.zero_le _, rfl, rfl, Lib.hid (Below.refl _ _)⟩
 case round =>
  obtain ⟨j, hj, rfl, rfl, HS⟩ := hrel
  have hs0 := HSZ.out j
  rw [List.length_take] at hs0
  by_cases hlt : j < n
  ·have hjl : j < rs.length := by rw [HN.out]; exact hlt
   obtain ⟨b, o, hp, hc⟩ := HR.out.get j hjl
   have hHB := Below.trans HB.out (HB0.out.mono HB.out.size)
   have hc1 := ((below_then hHB HS.out (Nat.le_trans HB.out.size HB0.out.size)).cell (World.block_lt_of_cell? w0 _ hc)).trans hc
   obtain ⟨-, -, -, -, -, -, -, -, b8, -, -, -, -, -, -, -, -, -, -⟩ := HX0.out.below HS.out
   rw [hrs, HN.out] at b8
   rw [hp] at b8
   have hok := HR.out.ok _ (Effect.nget_mem hjl)
   have hpos := HR0.out _ (Effect.nget_mem hjl)
   have hdz := Effect.digs_size _ hpos hok.2
   have htk : rhA (rs.take (j + 1)) = (rhA (rs.take j) ++ ⟨#[32]⟩) ++ digs (Effect.nget rs j) := by
    rw [List.take_add_one, Effect.nget_at hjl]; exact rhA_snoc _ _
   have HTK := Lib.hid htk
   have hnum := refNum_walk (Effect.nget rs j) hok.1 hok.2
   generalize Effect.nget rs j = x at *
   have e1 : (⟨#[32]⟩ : ByteArray).size = 1 := rfl
   have ha0 := add_run (rhA (rs.take j)) ⟨#[32]⟩ _ rfl (by rw [ByteArray.size_append]; omega)
   have ha1 := add_run (rhA (rs.take j) ++ ⟨#[32]⟩) (digs x) _ rfl (by rw [ByteArray.size_append, ByteArray.size_append]; omega)
   have HNUM := Lib.hid hnum
   clear hc hHB hok hpos hdz htk hnum hs0 e1 hp hjl
   generalize rhA (rs.take j) = A0 at *
   generalize (A0 ++ ⟨#[32]⟩ : ByteArray) = A1 at *
   go_wp2_with (fail)
   refine (HNUM.out wr).mono ?_
   rintro e w2 ⟨rfl, hb2⟩
   have HS2 := Lib.hid (below_then HS.out hb2 HS.out.size)
   clear hb2 hc1 b8
   generalize digs x = D at *
   go_wp2_with (fail)
   go_roundw
   case rel => exact ⟨j + 1, by omega, by go_num, by rw [HTK.out], HS2⟩
   case measure => simp [intOf]; omega
  ·obtain rfl : j = n := by omega
   have e2 : (⟨#[32, 93]⟩ : ByteArray).size = 2 := rfl
   have ha0 := add_run (rhA (rs.take j)) ⟨#[32, 93]⟩ _ rfl (by rw [ByteArray.size_append]; omega)
   have HT := Lib.hid (show rhA (rs.take j) ++ ⟨#[32, 93]⟩ = rhT rs by unfold rhT; rw [List.take_of_length_le (by rw [HN.out]; exact Nat.le_refl _)])
   have HE := Lib.hid (below_then HB0.out HS.out HB0.out.size)
   clear hs0 e2
   go_wp2_with (fail)
   go_ret
   exact ⟨ret_str (by rw [hrs]; exact HT.out), HE.out⟩
def TextIs (w0 : World) (m : Nat) : Prop := ∀ (t : AT) (h : Hd) (v : V) (l : Nat) (w : World), wt t ≤ m → wt t ≤ 500 → allT nodeB t = true → allT smallB t = true → AtIs w0 h v l t → Below w0.heap.size w0 w →
 Calls Tryz.prog 10 #[.agg #[.int .u8 h.h.k, .int .u8 h.h.op, .int .i64 h.h.pl, .int .i64 h.h.n, .string h.h.name, .string h.h.arg, .string h.h.exn, .int .i64 h.rho, .slice v.ra h.rhos.length v.rc, .slice v.ea h.e.length v.ec, .int .u8 h.ty.h.k, .int .i64 h.ty.h.r, .slice v.tea h.ty.h.e.length v.tec, .slice v.tka h.ty.ks.length v.tkc, .int .u8 h.re.h.k, .int .i64 h.re.h.r, .slice v.sea h.re.h.e.length v.sec, .slice v.ska h.re.ks.length v.skc, .slice v.ka l v.kc]] w fun e w' => e = .returned (.string (jb (partsT t))) ∧ Below w.heap.size w w'
theorem ne_parts {t : AT} (h : allT nodeB t = true) (hs : allT smallB t = true) : partsT t ≠ [] := by
 have := (parts_len _ t (Nat.le_refl _) h (few_of hs)).1
 intro e
 rw [e] at this
 simp at this
theorem txs_new {B : Nat} {w : World} (hB : B ≤ w.heap.size) : Effect.Txs B (w.alloc (.cells #[] 9)) (.slice (some ⟨w.heap.size, 0, none⟩) 0 0) 0 [] :=
 ⟨rfl, .inr ⟨w.heap.size, 0, #[], rfl, hB, heap_alloc_new w _, Nat.le_refl _, by unfold maxLen; omega, rfl, rfl⟩⟩
theorem refEff_walk {w0 : World} {h : Hd} {v : V} (hI : HdIs w0 h v) (hg : Effect.greatB h.e = false) (W : World) (hb : Below w0.heap.size w0 W) :
  Calls Tryz.prog 21 #[.slice v.ea h.e.length v.ec] W fun e w' => e = .returned (.string (efT h.e)) ∧ Below W.heap.size W w' :=
 Effect.refText_walk (hI.eff.below hb).rd (by have := (Effect.great_no hg).1; omega) (Rt.sh_eff (n := 100) hI.eok (Effect.great_no hg).2 (by omega))
theorem refTyp_walk {w0 : World} {t : Rt.RT} {pe : Option Addr} {ce : Nat} {p : Option Addr} {c : Nat} (hT : Rt.RtIs w0 t.h pe t.h.e.length ce p t.ks.length c t) (hm : Rt.mayT t = true) (hg : Rt.greatT t = false) (W : World) (hb : Below w0.heap.size w0 W) :
  Calls Tryz.prog 23 #[.agg #[.int .u8 t.h.k, .int .i64 t.h.r, .slice pe t.h.e.length ce, .slice p t.ks.length c]] W fun e w' => e = .returned (.string (tyT t)) ∧ Below W.heap.size W w' := by
 have hs := Rt.small_eff hg
 have hsz := Rt.text_size hT hm (n := 100) (by omega) hs.2
 have h2 : (1007 * 100 + 21) * (8 * Rt.wt t) ≤ (1007 * 100 + 21) * (8 * 100) := Nat.mul_le_mul_left _ (by omega)
 exact Rt.refText_all w0 _ t t.h pe t.h.e.length ce p t.ks.length c W (Nat.le_refl _) hm (Rt.eff_more (by omega) hs.2) (by omega) hT hb
theorem boxTy {N1 : Nat} {h : Hd} {v : V} {l : Nat} {W : World} (k : Box W N1 h v l) : W.rangeAt N1 10 (rcells h.ty v.tea v.tec v.tka v.tkc) := by
 obtain ⟨b0, b1, b2, b3, b4, b5, b6, b7, b8, b9, b10, b11, b12, b13, b14, b15, b16, b17, b18⟩ := k
 intro j x hx
 match j, hx with
 | 0, hx => cases hx; exact b10
 | 1, hx => cases hx; exact b11
 | 2, hx => cases hx; exact b12
 | 3, hx => cases hx; exact b13
 | j + 4, hx => simp at hx
theorem boxRe {N1 : Nat} {h : Hd} {v : V} {l : Nat} {W : World} (k : Box W N1 h v l) : W.rangeAt N1 14 (rcells h.re v.sea v.sec v.ska v.skc) := by
 obtain ⟨b0, b1, b2, b3, b4, b5, b6, b7, b8, b9, b10, b11, b12, b13, b14, b15, b16, b17, b18⟩ := k
 intro j x hx
 match j, hx with
 | 0, hx => cases hx; exact b14
 | 1, hx => cases hx; exact b15
 | 2, hx => cases hx; exact b16
 | 3, hx => cases hx; exact b17
 | j + 4, hx => simp at hx
theorem signs_at (w6 : World) (k : Nat) (x : Value) (hx : (#[Value.string ⟨#[43]⟩, .string ⟨#[45]⟩, .string ⟨#[42]⟩, .string ⟨#[60]⟩, .string ⟨#[61]⟩] : Array Value)[k]? = some x) : (w6.alloc (.cells #[.string ⟨#[43]⟩, .string ⟨#[45]⟩, .string ⟨#[42]⟩, .string ⟨#[60]⟩, .string ⟨#[61]⟩] 9)).cell? ⟨w6.heap.size, k, none⟩ = some x := by
 simp only [World.cell?, heap_alloc_new]
 exact hx
end Disp
end Go.Proofs.YtkfkpjngiffamaaGreatDoor
namespace Go.Proofs.YtkfkpjngiffamaaGreatDoor
open Go.RowKit
set_option linter.unusedVariables false
set_option linter.unusedSimpArgs false
namespace Disp
open Effect (ret_bool ret_i64 lt_of_block heap_alloc_new own_slice Txs strsV)
open Rt (box_new below_then)
open Types (jb bl jb_list)

def spl : List UInt8 → List UInt8 → List (List UInt8)
 | cur, [] => [cur]
 | cur, b :: l => if b = 32 then cur :: spl [] l else spl (cur ++ [b]) l
theorem spl_word : ∀ (x cur rest : List UInt8), (32 : UInt8) ∉ x → spl cur (x ++ rest) = spl (cur ++ x) rest
 | [], cur, rest, _ => by rw [List.nil_append, List.append_nil]
 | b :: x, cur, rest, h => by
  have hb : ¬ b = 32 := fun e => h (by rw [e]; exact List.mem_cons_self)
  rw [List.cons_append, spl, if_neg hb, spl_word x (cur ++ [b]) rest (fun hm => h (List.mem_cons_of_mem _ hm)), List.append_assoc]
  rfl
theorem spl_tail : ∀ (l : List (List UInt8)) (cur : List UInt8), (∀ x ∈ l, (32 : UInt8) ∉ x) → spl cur (Lib.joinTail [32] l) = cur :: l
 | [], cur, _ => rfl
 | x :: l, cur, h => by
  have e : Lib.joinTail [32] (x :: l) = 32 :: (x ++ Lib.joinTail [32] l) := by simp [Lib.joinTail]
  rw [e, spl, if_pos rfl, spl_word x [] _ (h x List.mem_cons_self), List.nil_append, spl_tail l x (fun y hy => h y (List.mem_cons_of_mem _ hy))]
theorem spl_jb {ws : List ByteArray} (h : ∀ w ∈ ws, Seen w) (hn : ws ≠ []) : spl [] (jb ws).data.toList = ws.map bl := by
 rw [jb_list]
 have hh : ∀ x ∈ ws.map bl, (32 : UInt8) ∉ x := fun x hx hm => by
  obtain ⟨w, hw, rfl⟩ := List.mem_map.1 hx
  have := ((h w hw).2 32 hm).1
  have e : (32 : UInt8).toNat = 32 := rfl
  omega
 show spl [] (Lib.join (ws.map bl) [32]) = ws.map bl
 have hn2 : ws.map bl ≠ [] := by simpa using hn
 generalize ws.map bl = l at hh hn2
 cases l with
 | nil => exact absurd rfl hn2
 | cons x l => rw [Lib.join_cons, spl_word x [] _ (hh x List.mem_cons_self), List.nil_append, spl_tail l x (fun y hy => hh y (List.mem_cons_of_mem _ hy))]
def toB (l : List UInt8) : ByteArray := ⟨l.toArray⟩
theorem toB_bl (ws : List ByteArray) : (ws.map bl).map toB = ws := by
 rw [List.map_map]
 conv => rhs; rw [← List.map_id ws]
 congr 1
theorem ext_toB (s : ByteArray) (a b : Nat) : s.extract a b = toB ((s.data.toList.drop a).take (b - a)) := by
 apply Types.bl_inj
 unfold bl toB
 simp [ByteArray.data_extract, List.take_drop]
theorem idx_run (s : ByteArray) (i : Nat) (hi : i < s.data.toList.length) (W : World) : (Instr.index 9 (.string s) (.int .i64 (i : Int))).run Tryz.prog W = .ok (.int .u8 (s.data.toList[i].toNat : Int)) W := by
 have hs : s.data.toList.length = s.size := rfl
 rw [run_index_string W 9 s .i64 (i : Int) Tryz.underlying9, dif_pos ⟨by omega, by omega⟩]
 rfl
theorem slc_run (s : ByteArray) (a b : Nat) (h1 : a ≤ b) (h2 : b ≤ s.data.toList.length) (W : World) : (Instr.slice 9 (.string s) (some (.int .i64 (a : Int))) (some (.int .i64 (b : Int))) none).run Tryz.prog W = .ok (.string (toB ((s.data.toList.drop a).take (b - a)))) W := by
 have hs : s.data.toList.length = s.size := rfl
 rw [← ext_toB, run_slice_string W 9 s .i64 .i64 (a : Int) (b : Int) Tryz.underlying9 (by omega) (by omega) (by omega)]
 rfl
theorem slc_end (s : ByteArray) (a : Nat) (h1 : a ≤ s.data.toList.length) (W : World) : (Instr.slice 9 (.string s) (some (.int .i64 (a : Int))) none none).run Tryz.prog W = .ok (.string (toB (s.data.toList.drop a))) W := by
 have hs : s.data.toList.length = s.size := rfl
 rw [run_slice_string_l W 9 s Tryz.underlying9 .i64 (a : Int) (by omega) (by omega)]
 have e : s.extract ((a : Int).toNat) s.size = toB (s.data.toList.drop a) := by
  rw [Int.toNat_natCast, ext_toB, List.take_of_length_le (by rw [List.length_drop]; omega)]
 rw [e]
set_option maxRecDepth 100000 in
set_option maxHeartbeats 6400000 in
theorem refWords_walk (L : List ByteArray) (hL : ∀ x ∈ L, Seen x) (hne : L ≠ []) (hz : (jb L).size ≤ 1000000000) (w : World) :
  Calls Tryz.prog 9 #[.string (jb L)] w fun e w' => ∃ g c, e = .returned (.slice (some ⟨g, 0, none⟩) L.length c) ∧ L.length ≤ c ∧ c ≤ maxLen ∧ (∀ (j : Nat) x, L[j]? = some x → w'.cell? ⟨g, j, none⟩ = some (.string x)) ∧ Below w.heap.size w w' := by
 obtain ⟨i0, hi, hz0, hz2, hz3⟩ := Effect.str_parts
 have hspl := spl_jb hL hne
 have hsl : (jb L).data.toList.length = (jb L).size := rfl
 have HSPL := Lib.hid hspl; have HI := Lib.hid hi; have HZ0 := Lib.hid hz0; have HZ2 := Lib.hid hz2; have HZ3 := Lib.hid hz3
 have HR0 := Lib.hid (txs_new (w := w) (Nat.le_refl _)); have HS0 := Lib.hid (box_new (w := w) (.cells #[] 9))
 have HLL := Lib.hid (show L.map bl = L.map bl from rfl)
 clear hspl hi hz0 hz2 hz3 hL hne
 generalize jb L = s at *
 have HSL := Lib.hid hsl
 have hb9 : (s.size : Int) ≤ 1000000000 := by omega
 clear hsl
 go_enter Tryz.func9, Tryz.ntmps9
 go_wp2_with (fail)
 go_loopw [3, 4, 5] (fun own f i wr => ∃ (k j q c2 : Nat) (a2 : Option Addr) (O : List (List UInt8)), k ≤ j ∧ j ≤ s.size ∧ i = .int .i64 (j : Int) ∧ f = .int .i64 (k : Int) ∧ own = .slice a2 q c2 ∧ q ≤ j ∧ Hid (O.length = q) ∧ Hid (Txs w.heap.size wr (.slice a2 q c2) q (O.map toB)) ∧ Hid (O ++ spl ((s.data.toList.drop k).take (j - k)) (s.data.toList.drop j) = L.map bl) ∧ Hid (Below w.heap.size w wr)) (fun _ _ i _ => s.size - (intOf i).toNat)
 case atStart => exact ⟨0, 0, 0, 0, _, [], Nat.le_refl _, Nat.zero_le _, rfl, rfl, rfl, Nat.le_refl _, Lib.hid rfl, HR0, Lib.hid (by rw [Nat.sub_zero, List.take_zero, List.drop_zero, List.nil_append]; exact HSPL.out), HS0⟩
 case round =>
  obtain ⟨k, j, q, c2, a2, O, hkj, hj, rfl, rfl, rfl, hq, HO, HT, HSP, HS⟩ := hrel
  by_cases hlt : j < s.size
  ·have hjl : j < s.data.toList.length := by rw [HSL.out]; exact hlt
   have hix := idx_run s j hjl
   have hsp := HSP.out
   rw [List.drop_eq_getElem_cons hjl, spl] at hsp
   generalize hbb : s.data.toList[j] = b at *
   by_cases hb : b = 32
   ·rw [if_pos hb] at hsp
    subst hb
    have hsc := slc_run s k j hkj (by rw [HSL.out]; omega)
    have HN := Lib.hid (show (O ++ [(s.data.toList.drop k).take (j - k)]) ++ spl ((s.data.toList.drop (j + 1)).take (j + 1 - (j + 1))) (s.data.toList.drop (j + 1)) = L.map bl by
     rw [Nat.sub_self, List.take_zero, List.append_assoc]; exact hsp)
    generalize hcur : (s.data.toList.drop k).take (j - k) = cur at *
    have HBB := Lib.hid hbb
    have e32 : (((32 : UInt8).toNat : Nat) : Int) = 32 := rfl
    rw [e32] at hix
    clear hsp hcur hbb HSP e32
    go_wp2_with (at_builtin; refine wpList_append_own_at _ rfl (.tmp 17) (.tmp 22) 32 rfl w.heap.size 9 i0 _ 1 16 Tryz.underlying32 HI.out HZ0.out HZ2.out HZ3.out rfl (by omega) (.slice a2 q c2) q (strsV (O.map toB)) rfl (Effect.own_belowS HT.out (box_new _)) _ 1 1 (strsV [toB cur]) rfl rfl (Effect.new_str rfl) (by simp [strsV, Value.oneCell']) (by unfold maxLen; omega) (by omega) (by have := HS.out.size; simp; omega) ?_; intro v' w3 hown hgr hnil hat3; obtain ⟨a3, c3', rfl, -, -⟩ := own_slice hown; have HT4 := Lib.hid hown; have HS3 := Lib.hid ((below_then HS.out (box_new _) HS.out.size).grown hgr (by have := HS.out.size; simp; omega) fun g hg => (HT.out.lt g hg).1); clear hown hgr hnil hat3)
    go_roundw
    case rel => exact ⟨j + 1, j + 1, q + 1, c3', a3, O ++ [cur], Nat.le_refl _, by omega, by go_num, by go_num, rfl, by omega, Lib.hid (by rw [List.length_append, HO.out]; rfl), Lib.hid (by have := HT4.out; unfold Txs; rw [List.map_append]; show World.ownsRow _ _ _ _ _ _ (strsV _); unfold strsV at this ⊢; rw [List.map_append, List.map_cons, List.map_nil]; exact this), HN, HS3⟩
    case measure => simp [intOf]; omega
   ·rw [if_neg hb] at hsp
    have hne : ¬ (b.toNat : Int) = 32 := fun e => hb (by
     have h2 : b.toNat = 32 := by omega
     have e32 : (32 : UInt8).toNat = 32 := rfl
     exact UInt8.toNat.inj (by rw [h2, e32]))
    have hbf : ((b.toNat : Int) == 32) = false := by rw [beq_eq_false_iff_ne]; exact hne
    have htk : ((s.data.toList.drop k).take (j + 1 - k)) = (s.data.toList.drop k).take (j - k) ++ [b] := by
     have e1 : j + 1 - k = (j - k) + 1 := by omega
     have hk2 : (s.data.toList.drop k)[j - k]? = some b := by
      rw [List.getElem?_drop, show k + (j - k) = j from by omega, List.getElem?_eq_getElem hjl, hbb]
     rw [e1, List.take_add_one, hk2]; rfl
    have HN := Lib.hid (show O ++ spl ((s.data.toList.drop k).take (j + 1 - k)) (s.data.toList.drop (j + 1)) = L.map bl by rw [htk]; exact hsp)
    generalize (b.toNat : Int) = bn at *
    clear hsp hbb HSP hne htk hb
    go_wp2_with (fail)
    go_roundw
    case rel => exact ⟨k, j + 1, q, c2, a2, O, by omega, by omega, by go_num, rfl, rfl, by omega, HO, HT, HN, HS⟩
    case measure => simp [intOf]; omega
  ·obtain rfl : j = s.size := by omega
   have hse := slc_end s k (by rw [HSL.out]; exact hkj)
   have hsp := HSP.out
   have e0 : s.data.toList.drop s.size = [] := List.drop_eq_nil_of_le (by rw [HSL.out]; exact Nat.le_refl _)
   have e1 : (s.data.toList.drop k).take (s.size - k) = s.data.toList.drop k := List.take_of_length_le (by rw [List.length_drop, HSL.out]; exact Nat.le_refl _)
   rw [e0, e1, spl] at hsp
   have HN := Lib.hid hsp
   generalize s.data.toList.drop k = cur at *
   clear hsp e0 e1 HSP hj
   go_wp2_with (at_builtin; refine wpList_append_own_at _ rfl (.tmp 26) (.tmp 30) 32 rfl w.heap.size 9 i0 _ 1 16 Tryz.underlying32 HI.out HZ0.out HZ2.out HZ3.out rfl (by omega) (.slice a2 q c2) q (strsV (O.map toB)) rfl (Effect.own_belowS HT.out (box_new _)) _ 1 1 (strsV [toB cur]) rfl rfl (Effect.new_str rfl) (by simp [strsV, Value.oneCell']) (by unfold maxLen; omega) (by omega) (by have := HS.out.size; simp; omega) ?_; intro v' w3 hown hgr hnil hat3; obtain ⟨a3, c3', rfl, -, -⟩ := own_slice hown; have HT4 := Lib.hid hown; have HS3 := Lib.hid ((below_then HS.out (box_new _) HS.out.size).grown hgr (by have := HS.out.size; simp; omega) fun g hg => (HT.out.lt g hg).1); clear hown hgr hnil hat3)
   have hLe : L = O.map toB ++ [toB cur] := by
    have h1 : (O ++ [cur]).map toB = (L.map bl).map toB := by rw [HN.out]
    rw [toB_bl, List.map_append] at h1
    exact h1.symm
   have hlen : L.length = q + 1 := by rw [hLe, List.length_append, List.length_map, HO.out]; rfl
   have ht : Txs w.heap.size w3 (.slice a3 (q + 1) c3') (q + 1) L := by
    have := HT4.out
    unfold Txs
    rw [hLe]
    show World.ownsRow _ _ _ _ _ _ (strsV _)
    unfold strsV at this ⊢
    rw [List.map_append, List.map_cons, List.map_nil]
    exact this
   obtain ⟨g, rfl, -, hcap, hcells⟩ := Effect.tx_cells ht (by omega)
   have hcm : c3' ≤ maxLen := by obtain ⟨_, _, e, h1, _⟩ := own_slice ht; injection e with _ _ e3; subst e3; exact h1
   have HE := Lib.hid (And.intro hlen (And.intro hcap (And.intro hcm hcells)))
   clear hLe hlen ht hcap hcm hcells
   go_ret
   exact ⟨g, c3', by rw [HE.out.1]; rfl, by rw [HE.out.1]; exact HE.out.2.1, HE.out.2.2.1, fun j x hx => by have := HE.out.2.2.2 j x hx; rw [Nat.zero_add] at this; exact this, HS3.out⟩
set_option maxHeartbeats 3200000 in
theorem refIn_walk (p : Option Addr) (n c : Nat) (ws : List ByteArray) (x : ByteArray) (w : World) (hS : Src w p n c ws) (hn : n ≤ 1000000) (hnc : n ≤ c ∧ c ≤ maxLen) :
  Calls Tryz.prog 11 #[.slice p n c, .string x] w fun e w' => e = .returned (.bool (decide (x ∈ ws))) ∧ w = w' := by
 have hlen := hS.1
 have hget := fun j (hj : j < n) => src_get hS hj
 have HG := Lib.hid hget; have HL := Lib.hid hlen
 have hcl : c ≤ 9223372036854775807 := hnc.2
 have hcq := hnc.1
 clear hget hlen hS hnc
 go_enter Tryz.func11, Tryz.ntmps11
 go_wp2
 go_loop [5, 8] (fun _ i => ∃ k : Nat, k ≤ n ∧ i = .int .i64 k ∧ Hid (∀ j y, j < k → ws[j]? = some y → y ≠ x)) (fun _ i => n - (intOf i).toNat)
 case atStart => exact ⟨0, by omega, rfl, Lib.hid (fun j y hj => by omega)⟩
 case round =>
  obtain ⟨k, hk, rfl, HA⟩ := hrel
  by_cases hlt : k < n
  ·obtain ⟨b, o, y, hp, hy, hc⟩ := HG.out k hlt
   subst hp
   have HY := Lib.hid hy
   clear hy
   by_cases hyx : y = x
   ·have n1 : (y.toList == x.toList) = true := by rw [hyx]; simp
    have HR := Lib.hid (show decide (x ∈ ws) = true from decide_eq_true (by rw [← hyx]; exact List.mem_of_getElem? HY.out))
    clear hyx
    go_wp2
    go_ret
    exact ⟨ret_bool HR.out.symm, rfl⟩
   ·have n1 : (y.toList == x.toList) = false := by
     rw [Lib.toList_data, Lib.toList_data, beq_eq_false_iff_ne]
     exact fun e => hyx (Types.bytes_ext e)
    have HYX := Lib.hid hyx
    clear hyx
    go_wp2
    go_round
    case rel =>
     refine ⟨k + 1, by omega, by go_num, Lib.hid (fun j z hj hz => ?_)⟩
     by_cases hjk : j = k
     ·subst hjk; rw [HY.out] at hz; injection hz with hz; rw [← hz]; exact HYX.out
     ·exact HA.out j z (by omega) hz
    case measure => simp [intOf]; omega
  ·obtain rfl : k = n := by omega
   have HR := Lib.hid (show decide (x ∈ ws) = false from decide_eq_false (fun hm => by
    obtain ⟨j, hj, e⟩ := List.getElem_of_mem hm
    exact HA.out j x (by rw [← HL.out]; exact hj) (by rw [List.getElem?_eq_getElem hj, e]) rfl))
   go_wp2
   go_ret
   exact ⟨ret_bool HR.out.symm, rfl⟩
end Disp
end Go.Proofs.YtkfkpjngiffamaaGreatDoor
namespace Go.Proofs.YtkfkpjngiffamaaGreatDoor
open Go.RowKit
set_option linter.unusedVariables false
set_option linter.unusedSimpArgs false
namespace DispEx
open Aterm
open Effect (RdI nget nget_at nget_mem ret_bool ret_i64 lt_of_block heap_alloc_new ofA)
open Rt (box_new box_at below_then)

def exH (k rho : Int) (n : Int := 0) : Hd := ⟨⟨k, 0, 0, n, ⟨#[]⟩, ⟨#[]⟩, ⟨#[]⟩⟩, rho, [], [], .node ⟨0, 0, []⟩ [], .node ⟨0, 0, []⟩ []⟩
def exV (p : Option Addr) (c : Nat) : V := ⟨none, 0, none, 0, none, 0, none, 0, none, 0, none, 0, p, c⟩
def exN : AT := .node (exH 1 0 2) []
def exP : AT := .node (exH 3 1) [exN, exN]
def exF : AT := .node (exH 4 0) [exP]
def exT : AT := .node (exH 17 1) [exF]
theorem wt_N : wt exN = 1 := by unfold exN; rw [wt_ks]; simp only [AT.ks]; rw [wts_nil]
theorem wt_P : wt exP = 3 := by unfold exP; rw [wt_ks]; simp only [AT.ks]; rw [wts_cons, wts_cons, wts_nil, wt_N]
theorem wt_F : wt exF = 4 := by unfold exF; rw [wt_ks]; simp only [AT.ks]; rw [wts_cons, wts_nil, wt_P]
theorem wt_T : wt exT = 5 := by unfold exT; rw [wt_ks]; simp only [AT.ks]; rw [wts_cons, wts_nil, wt_F]
theorem all_ex (B : Hd → Nat → Bool) (h1 : B (exH 1 0 2) 0 = true) (h2 : B (exH 3 1) 2 = true) (h3 : B (exH 4 0) 1 = true) (h4 : B (exH 17 1) 1 = true) : allT B exT = true := by
 have n : allT B exN = true := by unfold exN; rw [allT_eq]; simp only [AT.h, AT.ks, List.length_nil]; rw [h1, allK_nil]; rfl
 have p : allT B exP = true := by unfold exP; rw [allT_eq]; simp only [AT.h, AT.ks, List.length_cons, List.length_nil]; rw [show B (exH 3 1) (0 + 1 + 1) = true from h2, allK_cons, allK_cons, allK_nil, n]; rfl
 have f : allT B exF = true := by unfold exF; rw [allT_eq]; simp only [AT.h, AT.ks, List.length_cons, List.length_nil]; rw [show B (exH 4 0) (0 + 1) = true from h3, allK_cons, allK_nil, p]; rfl
 unfold exT; rw [allT_eq]; simp only [AT.h, AT.ks, List.length_cons, List.length_nil]; rw [show B (exH 17 1) (0 + 1) = true from h4, allK_cons, allK_nil, f]; rfl
theorem may_ex : mayT exT = true := by
 unfold mayT
 rw [wt_T, all_ex nodeB (by decide) (by decide) (by decide) (by decide)]
 rfl
theorem small_ex : allT smallB exT = true := all_ex smallB (by decide) (by decide) (by decide) (by decide)
theorem ex_is {w : World} {k rho n : Int} (hn : 0 ≤ n ∧ n ≤ 255) {p : Option Addr} {c : Nat} {ts : List AT} (hk : 0 ≤ k ∧ k ≤ 255) (hr : 0 ≤ rho ∧ rho ≤ 1000) (hc : ts.length ≤ c ∧ c ≤ maxLen) (hks : Aterm.Kids w p ts) : AtIs w (exH k rho n) (exV p c) ts.length (.node (exH k rho n) ts) :=
 ⟨rfl, rfl, ⟨⟨hk, by show (0 : Int) ≤ 0 ∧ (0 : Int) ≤ 255; omega, by show (-9223372036854775808 : Int) ≤ 0 ∧ (0 : Int) ≤ 9223372036854775807; omega, by show (-9223372036854775808 : Int) ≤ n ∧ n ≤ 9223372036854775807; omega, by show 0 ≤ maxLen; exact Nat.zero_le _, by show 0 ≤ maxLen; exact Nat.zero_le _, by show 0 ≤ maxLen; exact Nat.zero_le _⟩,
  by show -9223372036854775808 ≤ rho ∧ rho ≤ 9223372036854775807; omega, ⟨rfl, .inl rfl, fun x hx => by cases hx⟩, ⟨Nat.le_refl _, by show 0 ≤ maxLen; exact Nat.zero_le _⟩, zeroEff w, (fun x hx => by cases hx), zeroRt w, zeroRt w⟩, hc, hks⟩
theorem at_store2 {ops : Array Oper} {rest : List Oper} {op : Oper} {a : Act} {w0 : World} {Q : Exit → Act → World → Prop} (hgd : op.guard = none) (x y : Operand) (ho : op.op = .store 31 x y) (c : Array Value) (hc : c.size = 19)
  (h : Hd) (v : V) (l : Nat) (N : Nat) (hN : N = w0.heap.size) (hx : a.eval x = .pointer (some ⟨N, 0, none⟩)) (hy : a.eval y = .agg #[.int .u8 h.h.k, .int .u8 h.h.op, .int .i64 h.h.pl, .int .i64 h.h.n, .string h.h.name, .string h.h.arg, .string h.h.exn, .int .i64 h.rho, .slice v.ra h.rhos.length v.rc, .slice v.ea h.e.length v.ec, .int .u8 h.ty.h.k, .int .i64 h.ty.h.r, .slice v.tea h.ty.h.e.length v.tec, .slice v.tka h.ty.ks.length v.tkc, .int .u8 h.re.h.k, .int .i64 h.re.h.r, .slice v.sea h.re.h.e.length v.sec, .slice v.ska h.re.ks.length v.skc, .slice v.ka l v.kc])
  (k : wpList Tryz.prog ops Q rest (a.put op.dst undef) (w0.alloc (.cells #[.int .u8 h.h.k, .int .u8 h.h.op, .int .i64 h.h.pl, .int .i64 h.h.n, .string h.h.name, .string h.h.arg, .string h.h.exn, .int .i64 h.rho, .slice v.ra h.rhos.length v.rc, .slice v.ea h.e.length v.ec, .int .u8 h.ty.h.k, .int .i64 h.ty.h.r, .slice v.tea h.ty.h.e.length v.tec, .slice v.tka h.ty.ks.length v.tkc, .int .u8 h.re.h.k, .int .i64 h.re.h.r, .slice v.sea h.re.h.e.length v.sec, .slice v.ska h.re.ks.length v.skc, .slice v.ka l v.kc] 31))) : wpList Tryz.prog ops Q (op :: rest) a (w0.alloc (.cells c 31)) := by
 subst hN
 exact at_store hgd x y ho c hc h v l hx hy k
theorem of_world {P : Program} {c : Code} {Q : Exit → Act → World → Prop} {a : Act} {W : World} {F : World → Prop} (hf : F W) (h : ∀ W2, F W2 → Code.wp P c Q a W2) : Code.wp P c Q a W := h W hf
theorem kids_laid {W : World} {g : Nat} {ts : List AT} (h : ∀ i, i < ts.length → ∃ v, AtIs W (tget ts i).h v (tget ts i).ks.length (tget ts i) ∧ W.rangeAt g (i * 19) (acells (tget ts i).h v (tget ts i).ks.length)) : Aterm.Kids W (some ⟨g, 0, none⟩) ts := by
 have h' : ∀ i, ∃ v, i < ts.length → AtIs W (tget ts i).h v (tget ts i).ks.length (tget ts i) ∧ W.rangeAt g (i * 19) (acells (tget ts i).h v (tget ts i).ks.length) := fun i => by
  by_cases hi : i < ts.length
  ·obtain ⟨v, hv⟩ := h i hi
   exact ⟨v, fun _ => hv⟩
  ·exact ⟨v0, fun hn => absurd hn hi⟩
 obtain ⟨F, hF⟩ := Classical.axiomOfChoice h'
 refine .atkids g 0 ts F (fun i hi => (hF i hi).1.ok) (fun i hi j x hx => ?_) (fun i hi => (hF i hi).1.cap) (fun i hi => (hF i hi).1.kids)
 have := (hF i hi).2 j x hx
 rw [Nat.zero_add]; exact this
theorem kids_new {w : World} {t : AT} {h : Hd} {v : V} {l : Nat} (hT : AtIs w h v l t) {ty : TypeId} {N : Nat} (hN : N = w.heap.size) : Aterm.Kids (w.alloc (.cells #[.int .u8 h.h.k, .int .u8 h.h.op, .int .i64 h.h.pl, .int .i64 h.h.n, .string h.h.name, .string h.h.arg, .string h.h.exn, .int .i64 h.rho, .slice v.ra h.rhos.length v.rc, .slice v.ea h.e.length v.ec, .int .u8 h.ty.h.k, .int .i64 h.ty.h.r, .slice v.tea h.ty.h.e.length v.tec, .slice v.tka h.ty.ks.length v.tkc, .int .u8 h.re.h.k, .int .i64 h.re.h.r, .slice v.sea h.re.h.e.length v.sec, .slice v.ska h.re.ks.length v.skc, .slice v.ka l v.kc] ty)) (some ⟨N, 0, none⟩) [t] := by
 have hT' := hT.below (box_new (w := w) (.cells #[.int .u8 h.h.k, .int .u8 h.h.op, .int .i64 h.h.pl, .int .i64 h.h.n, .string h.h.name, .string h.h.arg, .string h.h.exn, .int .i64 h.rho, .slice v.ra h.rhos.length v.rc, .slice v.ea h.e.length v.ec, .int .u8 h.ty.h.k, .int .i64 h.ty.h.r, .slice v.tea h.ty.h.e.length v.tec, .slice v.tka h.ty.ks.length v.tkc, .int .u8 h.re.h.k, .int .i64 h.re.h.r, .slice v.sea h.re.h.e.length v.sec, .slice v.ska h.re.ks.length v.skc, .slice v.ka l v.kc] ty))
 have hr := row_new (W := w) hN (h := h) (v := v) (l := l) (ty := ty)
 have e1 := hT.head
 have e2 := hT.len
 subst e1 e2
 refine kids_laid fun i hi => ?_
 have hi0 : i = 0 := by simp at hi; omega
 subst hi0
 exact ⟨v, hT', by rw [Nat.zero_mul]; exact hr⟩
theorem kids_twice {w : World} {ty : TypeId} {N : Nat} (hN : N = w.heap.size) : Aterm.Kids (w.alloc (.cells #[.int .u8 1, .int .u8 0, .int .i64 0, .int .i64 2, .string ⟨#[]⟩, .string ⟨#[]⟩, .string ⟨#[]⟩, .int .i64 0, .slice none 0 0, .slice none 0 0, .int .u8 0, .int .i64 0, .slice none 0 0, .slice none 0 0, .int .u8 0, .int .i64 0, .slice none 0 0, .slice none 0 0, .slice none 0 0, .int .u8 1, .int .u8 0, .int .i64 0, .int .i64 2, .string ⟨#[]⟩, .string ⟨#[]⟩, .string ⟨#[]⟩, .int .i64 0, .slice none 0 0, .slice none 0 0, .int .u8 0, .int .i64 0, .slice none 0 0, .slice none 0 0, .int .u8 0, .int .i64 0, .slice none 0 0, .slice none 0 0, .slice none 0 0] ty)) (some ⟨N, 0, none⟩) [exN, exN] := by
 subst hN
 refine kids_laid fun i hi => ?_
 have hg : tget [exN, exN] i = exN := by
  have : i = 0 ∨ i = 1 := by simp at hi; omega
  rcases this with rfl | rfl <;> rfl
 rw [hg]
 refine ⟨exV none 0, ex_is (n := 2) (ts := []) (by decide) (by decide) (by decide) ⟨Nat.le_refl _, Nat.zero_le _⟩ (.nokids _), ?_⟩
 intro j x hx
 have hj : j < 19 := by
  rcases Nat.lt_or_ge j 19 with h | h
  ·exact h
  ·rw [List.getElem?_eq_none (by simpa [acells] using h)] at hx; cases hx
 rw [World.cell?_alloc_mark, ← hx]
 have : i = 0 ∨ i = 1 := by simp at hi; omega
 rcases this with rfl | rfl
 all_goals
  have hj' : j = 0 ∨ j = 1 ∨ j = 2 ∨ j = 3 ∨ j = 4 ∨ j = 5 ∨ j = 6 ∨ j = 7 ∨ j = 8 ∨ j = 9 ∨ j = 10 ∨ j = 11 ∨ j = 12 ∨ j = 13 ∨ j = 14 ∨ j = 15 ∨ j = 16 ∨ j = 17 ∨ j = 18 := by omega
  rcases hj' with rfl | rfl | rfl | rfl | rfl | rfl | rfl | rfl | rfl | rfl | rfl | rfl | rfl | rfl | rfl | rfl | rfl | rfl | rfl <;> rfl
end DispEx
end Go.Proofs.YtkfkpjngiffamaaGreatDoor
