/-The walk of the document's text of a type with regions. (Written by wip/tools/rttyp.py.) The document's texts of numbers and regions. (Written by wip/tools/dsref.py.) -/
import Derived.Test.YtfncpcijfphngaaGreatDoorGC12
import Derived.Test.YtfncpcijfphngaaGreatDoorGC10
import Derived.Test.YtfncpcijfphngaaGreatDoorGC17
import Derived.Test.YtfncpcijfphngaaGreatDoorGC22
import Derived.LoopTactic
namespace Go.Proofs.YtfncpcijfphngaaGreatDoor
open Go.RowKit
set_option linter.unusedVariables false
set_option linter.unusedSimpArgs false
namespace Rt
open Effect (At AtOk AtsAt Rd ofA ret_i64 ret_bool lt_of_block heap_alloc_new textE digs add_run)
open Types (jb jb_list bl bl_append bl_inj bl_app bl_cons bl_one jb_one wInt wOpen wShut wStar wRef wArrow)

def TextIs (w0 : World) (m : Nat) : Prop := ∀ (t : RT) (h : Hd) (pe : Option Addr) (ne ce : Nat) (p : Option Addr) (l c : Nat) (w : World), wt t ≤ m → mayT t = true → allT (effB 1000) t = true → (jb (wordsT t)).size ≤ 100000000 → RtIs w0 h pe ne ce p l c t → Below w0.heap.size w0 w →
 Calls Tryz.prog 29 #[.agg #[.int .u8 h.k, .int .i64 h.r, .slice pe ne ce, .slice p l c]] w fun e w' => e = .returned (.string (jb (wordsT t))) ∧ Below w.heap.size w w'
set_option maxRecDepth 100000 in
set_option maxHeartbeats 6400000 in
theorem ref_1 (w0 : World) (m : Nat) (hT : TextIs w0 m) (t : RT) (v : Int) (e : List At) (pe : Option Addr) (ne ce : Nat) (p : Option Addr) (l c : Nat) (w : World) (hm : wt t ≤ m + 1) (hok : mayT t = true) (hef : allT (effB 1000) t = true) (hsz : (jb (wordsT t)).size ≤ 100000000) (hI : RtIs w0 ⟨1, v, e⟩ pe ne ce p l c t) (hb : Below w0.heap.size w0 w) :
  Calls Tryz.prog 29 #[.agg #[.int .u8 1, .int .i64 v, .slice pe ne ce, .slice p l c]] w fun e w' => e = .returned (.string (jb (wordsT t))) ∧ Below w.heap.size w w' := by
 have ew : wordsT t = [wInt] := by rw [wordsT_eq, hI.head]; rfl
 rw [ew, jb_one]
 clear hT hI hb ew hok hsz hef
 go_enter Tryz.func29, Tryz.ntmps29
 go_wp2_with (fail)
 go_ret
 exact ⟨rfl, box_new _⟩

set_option maxRecDepth 100000 in
set_option maxHeartbeats 6400000 in
theorem ref_2 (w0 : World) (m : Nat) (hT : TextIs w0 m) (t : RT) (v : Int) (e : List At) (pe : Option Addr) (ne ce : Nat) (p : Option Addr) (l c : Nat) (w : World) (hm : wt t ≤ m + 1) (hok : mayT t = true) (hef : allT (effB 1000) t = true) (hsz : (jb (wordsT t)).size ≤ 100000000) (hI : RtIs w0 ⟨2, v, e⟩ pe ne ce p l c t) (hb : Below w0.heap.size w0 w) :
  Calls Tryz.prog 29 #[.agg #[.int .u8 2, .int .i64 v, .slice pe ne ce, .slice p l c]] w fun e w' => e = .returned (.string (jb (wordsT t))) ∧ Below w.heap.size w w' := by
 have hlen := hI.len
 have hnode := (may_node hok).1
 rw [hI.head] at hnode
 have hcap := hI.cap
 have hef2 := hef
 rw [allT_eq, Bool.and_eq_true, hI.head] at hef2
 have hv1 := hI.ok.r
 simp only at hv1
 obtain rfl : l = 2 := by simp at hnode; omega
 obtain ⟨b, o, rfl, hk⟩ := kid_at hI (by omega)
 obtain ⟨qe0, de0, q0, d0, hI0, hc0⟩ := hk 0 (by omega)
 have ok0 := may_kid hok (i := 0) (by omega)
 have ef0 := allK_get _ (j := 0) (by omega) hef2.2
 have ne0 := words_nil ok0
 rw [show o + 0 * 4 = o from by omega] at hc0
 obtain ⟨qe1, de1, q1, d1, hI1, hc1⟩ := hk 1 (by omega)
 have ok1 := may_kid hok (i := 1) (by omega)
 have ef1 := allK_get _ (j := 1) (by omega) hef2.2
 have ne1 := words_nil ok1
 rw [show o + 1 * 4 = o + 4 from by omega] at hc1
 have hww := wt2 (t := t) (by omega)
 have hkd0 := kw_get (show 0 < t.ks.length by omega)
 have hkd1 := kw_get (show 1 < t.ks.length by omega)
 have ew : jb (wordsT t) = (((((⟨#[40, 32]⟩ : ByteArray) ++ jb (wordsT (tget t.ks 0))) ++ (⟨#[32, 42, 32]⟩ : ByteArray)) ++ jb (wordsT (tget t.ks 1))) ++ (((⟨#[32, 64, 32]⟩ : ByteArray) ++ digs v) ++ (⟨#[32, 41]⟩ : ByteArray))) := by
  rw [wordsT_eq, hI.head]
  unfold comb
  apply bl_inj
  simp [hkd0, hkd1, bl_append, bl_app, bl_cons, bl_one, List.append_assoc, ne0, ne1]
  try simp [bl, wOpen, wShut, wStar, wRef, wArrow, wAt, wBang]
 rw [ew] at hsz ⊢
 simp only [ByteArray.size_append] at hsz
 have hz1 := add_run (⟨#[32, 64, 32]⟩ : ByteArray) (digs v) _ rfl (by simp only [ByteArray.size_append]; omega)
 have hz2 := add_run ((⟨#[32, 64, 32]⟩ : ByteArray) ++ digs v) (⟨#[32, 41]⟩ : ByteArray) _ rfl (by simp only [ByteArray.size_append]; omega)
 have ha0 := add_run ((⟨#[40, 32]⟩ : ByteArray)) (jb (wordsT (tget t.ks 0))) _ rfl (by simp only [ByteArray.size_append]; omega)
 have ha1 := add_run (((⟨#[40, 32]⟩ : ByteArray) ++ jb (wordsT (tget t.ks 0)))) ((⟨#[32, 42, 32]⟩ : ByteArray)) _ rfl (by simp only [ByteArray.size_append]; omega)
 have ha2 := add_run ((((⟨#[40, 32]⟩ : ByteArray) ++ jb (wordsT (tget t.ks 0))) ++ (⟨#[32, 42, 32]⟩ : ByteArray))) (jb (wordsT (tget t.ks 1))) _ rfl (by simp only [ByteArray.size_append]; omega)
 have ha3 := add_run (((((⟨#[40, 32]⟩ : ByteArray) ++ jb (wordsT (tget t.ks 0))) ++ (⟨#[32, 42, 32]⟩ : ByteArray)) ++ jb (wordsT (tget t.ks 1)))) ((((⟨#[32, 64, 32]⟩ : ByteArray) ++ digs v) ++ (⟨#[32, 41]⟩ : ByteArray))) _ rfl (by simp only [ByteArray.size_append]; omega)
 have hp0 := fun W hb => hT (tget t.ks 0) _ qe0 _ de0 q0 _ d0 W (by omega) ok0 ef0 (by omega) hI0 hb
 have hp1 := fun W hb => hT (tget t.ks 1) _ qe1 _ de1 q1 _ d1 W (by omega) ok1 ef1 (by omega) hI1 hb
 have hdg := fun O => Effect.refDigits_walk v hv1.1 hv1.2 (w.alloc O)
 have hdv : (⟨(Lib.itoa v).toArray⟩ : ByteArray) = digs v := rfl
 rw [hdv] at hdg
 have hX : ∀ W, Below (w.alloc (.cells #[.int .u8 2, .int .i64 v, .slice pe ne ce, .slice (some ⟨b, o, none⟩) 2 c] 28)).heap.size (w.alloc (.cells #[.int .u8 2, .int .i64 v, .slice pe ne ce, .slice (some ⟨b, o, none⟩) 2 c] 28)) W → W.cell? ⟨w.heap.size, 0, none⟩ = some (.int .u8 2) ∧ W.cell? ⟨w.heap.size, 1, none⟩ = some (.int .i64 v) ∧ W.cell? ⟨w.heap.size, 2, none⟩ = some (.slice pe ne ce) ∧ W.cell? ⟨w.heap.size, 3, none⟩ = some (.slice (some ⟨b, o, none⟩) 2 c) := fun W hb => box4 rfl hb
 have hcl : c ≤ 9223372036854775807 := hcap.2
 have hcq := hcap.1
 have HB := Lib.hid hb; have HX := Lib.hid hX; have HD := Lib.hid hdg; have HP0 := Lib.hid hp0; have HC0 := Lib.hid hc0; have HP1 := Lib.hid hp1; have HC1 := Lib.hid hc1
 clear hb hX hT hI hok hm hlen hnode hcap hk hww hsz ew hdg hdv hef hef2 hv1 hkd0 hp0 hc0 hI0 ok0 ef0 ne0 hkd1 hp1 hc1 hI1 ok1 ef1 ne1
 generalize digs v = dv at *
 generalize jb (wordsT (tget t.ks 0)) = J0 at *
 generalize jb (wordsT (tget t.ks 1)) = J1 at *
 generalize ((⟨#[32, 64, 32]⟩ : ByteArray) ++ dv : ByteArray) = Z1 at *
 generalize (Z1 ++ (⟨#[32, 41]⟩ : ByteArray) : ByteArray) = Z2 at *
 generalize ((⟨#[40, 32]⟩ : ByteArray) ++ J0 : ByteArray) = X0 at *
 generalize (X0 ++ (⟨#[32, 42, 32]⟩ : ByteArray) : ByteArray) = X1 at *
 generalize (X1 ++ J1 : ByteArray) = X2 at *
 generalize (X2 ++ Z2 : ByteArray) = X3 at *
 go_enter Tryz.func29, Tryz.ntmps29
 go_wp2_with (fail)
 refine (HD.out _).mono ?_
 rintro en wz ⟨rfl, hbz⟩
 have HBZ := Lib.hid hbz
 obtain ⟨c0, c1, c2, c3⟩ := HX.out _ hbz
 have hbwz := below_row (Below.refl w.heap.size w) hbz (Nat.le_refl _)
 have HWZ := Lib.hid hbwz
 obtain ⟨a0, a1, a2, a3⟩ := HC0.out _ (HB.out.trans (hbwz.mono HB.out.size))
 clear hbz hbwz
 go_wp2_with (fail)
 refine (HP0.out _ (HB.out.trans (HWZ.out.mono HB.out.size))).mono ?_
 rintro en w1 ⟨rfl, hb1⟩
 have HB1 := Lib.hid (below_then HBZ.out hb1 HBZ.out.size)
 have HW1 := Lib.hid (below_then HWZ.out hb1 HWZ.out.size)
 clear hb1 c0 c1 c2 c3 a0 a1 a2 a3
 obtain ⟨c0, c1, c2, c3⟩ := HX.out _ HB1.out
 obtain ⟨g0, g1, g2, g3⟩ := HC1.out _ (HB.out.trans (HW1.out.mono HB.out.size))
 go_wp2_with (fail)
 refine (HP1.out _ (HB.out.trans (HW1.out.mono HB.out.size))).mono ?_
 rintro en w2 ⟨rfl, hb2⟩
 have HB2 := Lib.hid (below_then HB1.out hb2 HB1.out.size)
 have HW2 := Lib.hid (below_then HW1.out hb2 HW1.out.size)
 clear hb2 c0 c1 c2 c3 g0 g1 g2 g3
 obtain ⟨c0, c1, c2, c3⟩ := HX.out _ HB2.out
 go_wp2_with (fail)
 go_ret
 exact ⟨rfl, HW2.out⟩

set_option maxRecDepth 100000 in
set_option maxHeartbeats 6400000 in
theorem ref_3 (w0 : World) (m : Nat) (hT : TextIs w0 m) (t : RT) (v : Int) (e : List At) (pe : Option Addr) (ne ce : Nat) (p : Option Addr) (l c : Nat) (w : World) (hm : wt t ≤ m + 1) (hok : mayT t = true) (hef : allT (effB 1000) t = true) (hsz : (jb (wordsT t)).size ≤ 100000000) (hI : RtIs w0 ⟨3, v, e⟩ pe ne ce p l c t) (hb : Below w0.heap.size w0 w) :
  Calls Tryz.prog 29 #[.agg #[.int .u8 3, .int .i64 v, .slice pe ne ce, .slice p l c]] w fun e w' => e = .returned (.string (jb (wordsT t))) ∧ Below w.heap.size w w' := by
 have hlen := hI.len
 have hnode := (may_node hok).1
 rw [hI.head] at hnode
 have hcap := hI.cap
 have hef2 := hef
 rw [allT_eq, Bool.and_eq_true, hI.head] at hef2
 have hv1 := hI.ok.r
 simp only at hv1
 obtain rfl : l = 1 := by simp at hnode; omega
 obtain ⟨b, o, rfl, hk⟩ := kid_at hI (by omega)
 obtain ⟨qe0, de0, q0, d0, hI0, hc0⟩ := hk 0 (by omega)
 have ok0 := may_kid hok (i := 0) (by omega)
 have ef0 := allK_get _ (j := 0) (by omega) hef2.2
 have ne0 := words_nil ok0
 rw [show o + 0 * 4 = o from by omega] at hc0
 have hww := wt1 (t := t) (by omega)
 have hkd0 := kw_get (show 0 < t.ks.length by omega)
 have ew : jb (wordsT t) = (((⟨#[40, 32, 114, 101, 102, 32]⟩ : ByteArray) ++ jb (wordsT (tget t.ks 0))) ++ (((⟨#[32, 64, 32]⟩ : ByteArray) ++ digs v) ++ (⟨#[32, 41]⟩ : ByteArray))) := by
  rw [wordsT_eq, hI.head]
  unfold comb
  apply bl_inj
  simp [hkd0, bl_append, bl_app, bl_cons, bl_one, List.append_assoc, ne0]
  try simp [bl, wOpen, wShut, wStar, wRef, wArrow, wAt, wBang]
 rw [ew] at hsz ⊢
 simp only [ByteArray.size_append] at hsz
 have hz1 := add_run (⟨#[32, 64, 32]⟩ : ByteArray) (digs v) _ rfl (by simp only [ByteArray.size_append]; omega)
 have hz2 := add_run ((⟨#[32, 64, 32]⟩ : ByteArray) ++ digs v) (⟨#[32, 41]⟩ : ByteArray) _ rfl (by simp only [ByteArray.size_append]; omega)
 have ha0 := add_run ((⟨#[40, 32, 114, 101, 102, 32]⟩ : ByteArray)) (jb (wordsT (tget t.ks 0))) _ rfl (by simp only [ByteArray.size_append]; omega)
 have ha1 := add_run (((⟨#[40, 32, 114, 101, 102, 32]⟩ : ByteArray) ++ jb (wordsT (tget t.ks 0)))) ((((⟨#[32, 64, 32]⟩ : ByteArray) ++ digs v) ++ (⟨#[32, 41]⟩ : ByteArray))) _ rfl (by simp only [ByteArray.size_append]; omega)
 have hp0 := fun W hb => hT (tget t.ks 0) _ qe0 _ de0 q0 _ d0 W (by omega) ok0 ef0 (by omega) hI0 hb
 have hdg := fun O => Effect.refDigits_walk v hv1.1 hv1.2 (w.alloc O)
 have hdv : (⟨(Lib.itoa v).toArray⟩ : ByteArray) = digs v := rfl
 rw [hdv] at hdg
 have hX : ∀ W, Below (w.alloc (.cells #[.int .u8 3, .int .i64 v, .slice pe ne ce, .slice (some ⟨b, o, none⟩) 1 c] 28)).heap.size (w.alloc (.cells #[.int .u8 3, .int .i64 v, .slice pe ne ce, .slice (some ⟨b, o, none⟩) 1 c] 28)) W → W.cell? ⟨w.heap.size, 0, none⟩ = some (.int .u8 3) ∧ W.cell? ⟨w.heap.size, 1, none⟩ = some (.int .i64 v) ∧ W.cell? ⟨w.heap.size, 2, none⟩ = some (.slice pe ne ce) ∧ W.cell? ⟨w.heap.size, 3, none⟩ = some (.slice (some ⟨b, o, none⟩) 1 c) := fun W hb => box4 rfl hb
 have hcl : c ≤ 9223372036854775807 := hcap.2
 have hcq := hcap.1
 have HB := Lib.hid hb; have HX := Lib.hid hX; have HD := Lib.hid hdg; have HP0 := Lib.hid hp0; have HC0 := Lib.hid hc0
 clear hb hX hT hI hok hm hlen hnode hcap hk hww hsz ew hdg hdv hef hef2 hv1 hkd0 hp0 hc0 hI0 ok0 ef0 ne0
 generalize digs v = dv at *
 generalize jb (wordsT (tget t.ks 0)) = J0 at *
 generalize ((⟨#[32, 64, 32]⟩ : ByteArray) ++ dv : ByteArray) = Z1 at *
 generalize (Z1 ++ (⟨#[32, 41]⟩ : ByteArray) : ByteArray) = Z2 at *
 generalize ((⟨#[40, 32, 114, 101, 102, 32]⟩ : ByteArray) ++ J0 : ByteArray) = X0 at *
 generalize (X0 ++ Z2 : ByteArray) = X1 at *
 go_enter Tryz.func29, Tryz.ntmps29
 go_wp2_with (fail)
 refine (HD.out _).mono ?_
 rintro en wz ⟨rfl, hbz⟩
 have HBZ := Lib.hid hbz
 obtain ⟨c0, c1, c2, c3⟩ := HX.out _ hbz
 have hbwz := below_row (Below.refl w.heap.size w) hbz (Nat.le_refl _)
 have HWZ := Lib.hid hbwz
 obtain ⟨a0, a1, a2, a3⟩ := HC0.out _ (HB.out.trans (hbwz.mono HB.out.size))
 clear hbz hbwz
 go_wp2_with (fail)
 refine (HP0.out _ (HB.out.trans (HWZ.out.mono HB.out.size))).mono ?_
 rintro en w1 ⟨rfl, hb1⟩
 have HB1 := Lib.hid (below_then HBZ.out hb1 HBZ.out.size)
 have HW1 := Lib.hid (below_then HWZ.out hb1 HWZ.out.size)
 clear hb1 c0 c1 c2 c3 a0 a1 a2 a3
 obtain ⟨c0, c1, c2, c3⟩ := HX.out _ HB1.out
 go_wp2_with (fail)
 go_ret
 exact ⟨rfl, HW1.out⟩

set_option maxRecDepth 100000 in
set_option maxHeartbeats 6400000 in
theorem ref_4 (w0 : World) (m : Nat) (hT : TextIs w0 m) (t : RT) (v : Int) (e : List At) (pe : Option Addr) (ne ce : Nat) (p : Option Addr) (l c : Nat) (w : World) (hm : wt t ≤ m + 1) (hok : mayT t = true) (hef : allT (effB 1000) t = true) (hsz : (jb (wordsT t)).size ≤ 100000000) (hI : RtIs w0 ⟨4, v, e⟩ pe ne ce p l c t) (hb : Below w0.heap.size w0 w) :
  Calls Tryz.prog 29 #[.agg #[.int .u8 4, .int .i64 v, .slice pe ne ce, .slice p l c]] w fun e w' => e = .returned (.string (jb (wordsT t))) ∧ Below w.heap.size w w' := by
 have hlen := hI.len
 have hnode := (may_node hok).1
 rw [hI.head] at hnode
 have hcap := hI.cap
 have hef2 := hef
 rw [allT_eq, Bool.and_eq_true, hI.head] at hef2
 have hv1 := hI.ok.r
 simp only at hv1
 obtain rfl : l = 2 := by simp at hnode; omega
 obtain ⟨b, o, rfl, hk⟩ := kid_at hI (by omega)
 obtain ⟨qe0, de0, q0, d0, hI0, hc0⟩ := hk 0 (by omega)
 have ok0 := may_kid hok (i := 0) (by omega)
 have ef0 := allK_get _ (j := 0) (by omega) hef2.2
 have ne0 := words_nil ok0
 rw [show o + 0 * 4 = o from by omega] at hc0
 obtain ⟨qe1, de1, q1, d1, hI1, hc1⟩ := hk 1 (by omega)
 have ok1 := may_kid hok (i := 1) (by omega)
 have ef1 := allK_get _ (j := 1) (by omega) hef2.2
 have ne1 := words_nil ok1
 rw [show o + 1 * 4 = o + 4 from by omega] at hc1
 have hww := wt2 (t := t) (by omega)
 have hkd0 := kw_get (show 0 < t.ks.length by omega)
 have hkd1 := kw_get (show 1 < t.ks.length by omega)
 have ew : jb (wordsT t) = (((((((⟨#[40, 32]⟩ : ByteArray) ++ jb (wordsT (tget t.ks 0))) ++ (⟨#[32, 45, 62, 32]⟩ : ByteArray)) ++ jb (wordsT (tget t.ks 1))) ++ (⟨#[32, 33, 32]⟩ : ByteArray)) ++ textE (ofA e)) ++ (((⟨#[32, 64, 32]⟩ : ByteArray) ++ digs v) ++ (⟨#[32, 41]⟩ : ByteArray))) := by
  rw [wordsT_eq, hI.head]
  unfold comb
  apply bl_inj
  simp [hkd0, hkd1, bl_append, bl_app, bl_cons, bl_one, List.append_assoc, ne0, ne1]
  try simp [bl, wOpen, wShut, wStar, wRef, wArrow, wAt, wBang]
 rw [ew] at hsz ⊢
 simp only [ByteArray.size_append] at hsz
 have hz1 := add_run (⟨#[32, 64, 32]⟩ : ByteArray) (digs v) _ rfl (by simp only [ByteArray.size_append]; omega)
 have hz2 := add_run ((⟨#[32, 64, 32]⟩ : ByteArray) ++ digs v) (⟨#[32, 41]⟩ : ByteArray) _ rfl (by simp only [ByteArray.size_append]; omega)
 have ha0 := add_run ((⟨#[40, 32]⟩ : ByteArray)) (jb (wordsT (tget t.ks 0))) _ rfl (by simp only [ByteArray.size_append]; omega)
 have ha1 := add_run (((⟨#[40, 32]⟩ : ByteArray) ++ jb (wordsT (tget t.ks 0)))) ((⟨#[32, 45, 62, 32]⟩ : ByteArray)) _ rfl (by simp only [ByteArray.size_append]; omega)
 have ha2 := add_run ((((⟨#[40, 32]⟩ : ByteArray) ++ jb (wordsT (tget t.ks 0))) ++ (⟨#[32, 45, 62, 32]⟩ : ByteArray))) (jb (wordsT (tget t.ks 1))) _ rfl (by simp only [ByteArray.size_append]; omega)
 have ha3 := add_run (((((⟨#[40, 32]⟩ : ByteArray) ++ jb (wordsT (tget t.ks 0))) ++ (⟨#[32, 45, 62, 32]⟩ : ByteArray)) ++ jb (wordsT (tget t.ks 1)))) ((⟨#[32, 33, 32]⟩ : ByteArray)) _ rfl (by simp only [ByteArray.size_append]; omega)
 have ha4 := add_run ((((((⟨#[40, 32]⟩ : ByteArray) ++ jb (wordsT (tget t.ks 0))) ++ (⟨#[32, 45, 62, 32]⟩ : ByteArray)) ++ jb (wordsT (tget t.ks 1))) ++ (⟨#[32, 33, 32]⟩ : ByteArray))) (textE (ofA e)) _ rfl (by simp only [ByteArray.size_append]; omega)
 have ha5 := add_run (((((((⟨#[40, 32]⟩ : ByteArray) ++ jb (wordsT (tget t.ks 0))) ++ (⟨#[32, 45, 62, 32]⟩ : ByteArray)) ++ jb (wordsT (tget t.ks 1))) ++ (⟨#[32, 33, 32]⟩ : ByteArray)) ++ textE (ofA e))) ((((⟨#[32, 64, 32]⟩ : ByteArray) ++ digs v) ++ (⟨#[32, 41]⟩ : ByteArray))) _ rfl (by simp only [ByteArray.size_append]; omega)
 have hp0 := fun W hb => hT (tget t.ks 0) _ qe0 _ de0 q0 _ d0 W (by omega) ok0 ef0 (by omega) hI0 hb
 have hp1 := fun W hb => hT (tget t.ks 1) _ qe1 _ de1 q1 _ d1 W (by omega) ok1 ef1 (by omega) hI1 hb
 have hdg := fun O => Effect.refDigits_walk v hv1.1 hv1.2 (w.alloc O)
 have hdv : (⟨(Lib.itoa v).toArray⟩ : ByteArray) = digs v := rfl
 rw [hdv] at hdg
 have hte := fun W hb => Effect.refText_walk (w := W) (c := ce) (hI.eff.below hb).rd (by rw [← hI.elen]; exact (eff_iff.1 hef2.1).1) (sh_eff hI.ok.e (eff_iff.1 hef2.1).2 (Nat.le_refl _))
 have hX : ∀ W, Below (w.alloc (.cells #[.int .u8 4, .int .i64 v, .slice pe ne ce, .slice (some ⟨b, o, none⟩) 2 c] 28)).heap.size (w.alloc (.cells #[.int .u8 4, .int .i64 v, .slice pe ne ce, .slice (some ⟨b, o, none⟩) 2 c] 28)) W → W.cell? ⟨w.heap.size, 0, none⟩ = some (.int .u8 4) ∧ W.cell? ⟨w.heap.size, 1, none⟩ = some (.int .i64 v) ∧ W.cell? ⟨w.heap.size, 2, none⟩ = some (.slice pe ne ce) ∧ W.cell? ⟨w.heap.size, 3, none⟩ = some (.slice (some ⟨b, o, none⟩) 2 c) := fun W hb => box4 rfl hb
 have hcl : c ≤ 9223372036854775807 := hcap.2
 have hcq := hcap.1
 have HB := Lib.hid hb; have HX := Lib.hid hX; have HD := Lib.hid hdg; have HTE := Lib.hid hte; have HP0 := Lib.hid hp0; have HC0 := Lib.hid hc0; have HP1 := Lib.hid hp1; have HC1 := Lib.hid hc1
 clear hb hX hT hI hok hm hlen hnode hcap hk hww hsz ew hdg hdv hef hef2 hv1 hte hkd0 hp0 hc0 hI0 ok0 ef0 ne0 hkd1 hp1 hc1 hI1 ok1 ef1 ne1
 generalize digs v = dv at *
 generalize jb (wordsT (tget t.ks 0)) = J0 at *
 generalize jb (wordsT (tget t.ks 1)) = J1 at *
 generalize textE (ofA e) = te at *
 generalize ((⟨#[32, 64, 32]⟩ : ByteArray) ++ dv : ByteArray) = Z1 at *
 generalize (Z1 ++ (⟨#[32, 41]⟩ : ByteArray) : ByteArray) = Z2 at *
 generalize ((⟨#[40, 32]⟩ : ByteArray) ++ J0 : ByteArray) = X0 at *
 generalize (X0 ++ (⟨#[32, 45, 62, 32]⟩ : ByteArray) : ByteArray) = X1 at *
 generalize (X1 ++ J1 : ByteArray) = X2 at *
 generalize (X2 ++ (⟨#[32, 33, 32]⟩ : ByteArray) : ByteArray) = X3 at *
 generalize (X3 ++ te : ByteArray) = X4 at *
 generalize (X4 ++ Z2 : ByteArray) = X5 at *
 go_enter Tryz.func29, Tryz.ntmps29
 go_wp2_with (fail)
 refine (HD.out _).mono ?_
 rintro en wz ⟨rfl, hbz⟩
 have HBZ := Lib.hid hbz
 obtain ⟨c0, c1, c2, c3⟩ := HX.out _ hbz
 have hbwz := below_row (Below.refl w.heap.size w) hbz (Nat.le_refl _)
 have HWZ := Lib.hid hbwz
 obtain ⟨a0, a1, a2, a3⟩ := HC0.out _ (HB.out.trans (hbwz.mono HB.out.size))
 clear hbz hbwz
 go_wp2_with (fail)
 refine (HP0.out _ (HB.out.trans (HWZ.out.mono HB.out.size))).mono ?_
 rintro en w1 ⟨rfl, hb1⟩
 have HB1 := Lib.hid (below_then HBZ.out hb1 HBZ.out.size)
 have HW1 := Lib.hid (below_then HWZ.out hb1 HWZ.out.size)
 clear hb1 c0 c1 c2 c3 a0 a1 a2 a3
 obtain ⟨c0, c1, c2, c3⟩ := HX.out _ HB1.out
 obtain ⟨g0, g1, g2, g3⟩ := HC1.out _ (HB.out.trans (HW1.out.mono HB.out.size))
 go_wp2_with (fail)
 refine (HP1.out _ (HB.out.trans (HW1.out.mono HB.out.size))).mono ?_
 rintro en w2 ⟨rfl, hb2⟩
 have HB2 := Lib.hid (below_then HB1.out hb2 HB1.out.size)
 have HW2 := Lib.hid (below_then HW1.out hb2 HW1.out.size)
 clear hb2 c0 c1 c2 c3 g0 g1 g2 g3
 obtain ⟨c0, c1, c2, c3⟩ := HX.out _ HB2.out
 go_wp2_with (fail)
 refine (HTE.out _ (HB.out.trans (HW2.out.mono HB.out.size))).mono ?_
 rintro en w3 ⟨rfl, hb3⟩
 have HW3 := Lib.hid (below_then HW2.out hb3 HW2.out.size)
 clear hb3 c0 c1 c2 c3
 go_wp2_with (fail)
 go_ret
 exact ⟨rfl, HW3.out⟩

/-- THE DOCUMENT'S TEXT. -/
theorem refText_all (w0 : World) : ∀ m, TextIs w0 m := by
 intro m
 induction m with
 | zero =>
  intro t h pe ne ce p l c w hm
  have := wt_pos t
  omega
 | succ m ih =>
  intro t h pe ne ce p l c w hm hok hef hsz hI hb
  have hk := (may_node hok).1
  rw [hI.head] at hk
  obtain ⟨k, v, e⟩ := h
  simp only at hk
  have hh : k = 1 ∨ k = 2 ∨ k = 3 ∨ k = 4 := by omega
  rcases hh with rfl | rfl | rfl | rfl
  ·exact ref_1 w0 m ih t v e pe ne ce p l c w hm hok hef hsz hI hb
  ·exact ref_2 w0 m ih t v e pe ne ce p l c w hm hok hef hsz hI hb
  ·exact ref_3 w0 m ih t v e pe ne ce p l c w hm hok hef hsz hI hb
  ·exact ref_4 w0 m ih t v e pe ne ce p l c w hm hok hef hsz hI hb
end Rt
end Go.Proofs.YtfncpcijfphngaaGreatDoor
namespace Go.Proofs.YtfncpcijfphngaaGreatDoor
open Go.RowKit
set_option linter.unusedVariables false
set_option linter.unusedSimpArgs false
namespace Disp
open Effect (At AtOk AtsAt Rd RdI ofA ret_i64 ret_bool lt_of_block heap_alloc_new own_slice digs NumLaid textE)
open Aterm (AT Hd V AtIs HdIs acells tget wt wts nodeB allT allK smallB Box box_of at_load exec_at range_below of_world atInfo)
open Rt (box_new below_then kw wAt wBang)
open Types (jb bl bl_inj bl_append bl_app bl_cons bl_one jb_one wInt wOpen wShut wStar wRef wArrow)

theorem add_run (a b c : ByteArray) (h : a ++ b = c) (hs : c.size ≤ 1000000000000) (W : World) : (Op.stringOp .add a b).run Tryz.prog W = .ok (.string c) W := by
 rw [run_string_add_sum, h]
 have : c.size = a.size + b.size := by rw [← h, ByteArray.size_append]
 omega
theorem ret_str {a b : ByteArray} (h : a = b) : Ending.returned (.string a) = .returned (.string b) := by rw [h]
theorem drewN_below {B : Nat} {w W : World} (h : Below B w W) (q : Nat) : Below B w (W.drewN q) := ⟨h.os, h.tape, h.output, by simpa [World.drewN] using h.size, h.block⟩
set_option maxHeartbeats 1600000 in
theorem refNum_walk (r : Int) (h0 : -9223372036854775808 ≤ r) (h1 : r ≤ 9223372036854775807) (w : World) :
  Calls Tryz.prog 27 #[.int .i64 r] w fun e w' => e = .returned (.string (digs r)) ∧ Below w.heap.size w w' := by
 have hd := Effect.refDigits_walk r h0 h1 w
 have HD := Lib.hid hd
 clear hd h0 h1
 go_enter Tryz.func27, Tryz.ntmps27
 go_wp2_with (fail)
 refine HD.out.mono ?_
 rintro e w1 ⟨rfl, hb1⟩
 have HB1 := Lib.hid hb1
 clear hb1
 go_wp2_with (fail)
 go_ret
 exact ⟨rfl, HB1.out⟩
/-- The text of regions, a blank ahead: so far, and whole. -/
def rhA (rs : List Int) : ByteArray := rs.foldl (fun a r => (a ++ ⟨#[32]⟩) ++ digs r) ⟨#[32, 91]⟩
def rhT (rs : List Int) : ByteArray := rhA rs ++ ⟨#[32, 93]⟩
theorem rhA_snoc (rs : List Int) (r : Int) : rhA (rs ++ [r]) = (rhA rs ++ ⟨#[32]⟩) ++ digs r := by unfold rhA; rw [List.foldl_append]; rfl
theorem snoc_ind {P : List Int → Prop} (h0 : P []) (h1 : ∀ l x, P l → P (l ++ [x])) : ∀ l, P l := by
 intro l
 have : ∀ n : Nat, ∀ l : List Int, l.length = n → P l := by
  intro n
  induction n with
  | zero => intro l hl; rw [List.length_eq_zero_iff.1 hl]; exact h0
  | succ n ih =>
   intro l hl
   have hne : l ≠ [] := by rintro rfl; simp at hl
   rw [← List.dropLast_concat_getLast hne]
   exact h1 _ _ (ih _ (by rw [List.length_dropLast]; omega))
 exact this _ l rfl
theorem rhA_bl (rs : List Int) : bl (rhA rs) = 32 :: bl (jb (wBrO :: rs.map digs)) := by
 refine snoc_ind (P := fun rs => bl (rhA rs) = 32 :: bl (jb (wBrO :: rs.map digs))) ?_ ?_ rs
 ·show bl (rhA []) = 32 :: bl (jb [wBrO])
  rw [bl_one]; rfl
 ·intro l x ih
  have e : wBrO :: (l ++ [x]).map digs = (wBrO :: l.map digs) ++ [digs x] := by simp
  show bl (rhA (l ++ [x])) = _
  rw [rhA_snoc, bl_append, bl_append, ih, e, bl_app (by simp) (by simp), bl_one]
  simp [bl]
theorem rhT_bl (rs : List Int) : bl (rhT rs) = 32 :: bl (jb (rhosW rs)) := by
 have e : rhosW rs = (wBrO :: rs.map digs) ++ [wBrC] := by unfold rhosW; simp
 unfold rhT
 rw [bl_append, rhA_bl, e, bl_app (by simp) (by simp), bl_one]
 simp [bl, wBrC]
theorem rhA_size (rs : List Int) (h : ∀ x ∈ rs, 0 ≤ x ∧ x ≤ IMAX) : (rhA rs).size ≤ 2 + 21 * rs.length := by
 revert h
 refine snoc_ind (P := fun rs => (∀ x ∈ rs, 0 ≤ x ∧ x ≤ IMAX) → (rhA rs).size ≤ 2 + 21 * rs.length) ?_ ?_ rs
 ·intro _; show (2 : Nat) ≤ _; simp
 ·intro l x ih h
  have h1 := ih (fun y hy => h y (List.mem_append.2 (.inl hy)))
  have h2 : (digs x).size ≤ 20 := Effect.digs_size x (h x (by simp)).1 (h x (by simp)).2
  have e1 : (⟨#[32]⟩ : ByteArray).size = 1 := rfl
  rw [rhA_snoc, ByteArray.size_append, ByteArray.size_append, List.length_append, List.length_cons, List.length_nil]
  omega
set_option maxRecDepth 10000 in
set_option maxHeartbeats 3200000 in
theorem refRhos_walk (t : AT) (h : Hd) (v : V) (l : Nat) (w0 w : World) (hI : AtIs w0 h v l t) (hb : Below w0.heap.size w0 w) (h50 : h.rhos.length ≤ 50) (hr0 : ∀ x ∈ h.rhos, 0 ≤ x) :
  Calls Tryz.prog 30 #[.agg #[.int .u8 h.h.k, .int .u8 h.h.op, .int .i64 h.h.pl, .int .i64 h.h.n, .string h.h.name, .string h.h.arg, .string h.h.exn, .int .i64 h.rho, .slice v.ra h.rhos.length v.rc, .slice v.ea h.e.length v.ec, .int .u8 h.ty.h.k, .int .i64 h.ty.h.r, .slice v.tea h.ty.h.e.length v.tec, .slice v.tka h.ty.ks.length v.tkc, .int .u8 h.re.h.k, .int .i64 h.re.h.r, .slice v.sea h.re.h.e.length v.sec, .slice v.ska h.re.ks.length v.skc, .slice v.ka l v.kc]] w fun e w' => e = .returned (.string (rhT h.rhos)) ∧ Below w.heap.size w w' := by
 have hrd := fun (W : World) (hbW : Below w0.heap.size w0 W) => hI.ok.rhos.at_
 have hR := hI.ok.rhos
 have hrc := hI.ok.rcap
 have hsz := fun (k : Nat) => rhA_size (h.rhos.take k) (fun x hx => ⟨hr0 x (List.mem_of_mem_take hx), (hR.ok x (List.mem_of_mem_take hx)).2⟩)
 have HR := Lib.hid hR; have HB := Lib.hid hb; have HSZ := Lib.hid hsz; have HR0 := Lib.hid hr0
 have hcl : v.rc ≤ 9223372036854775807 := hrc.2
 have hcq := hrc.1
 clear hrd hR hsz hI hb hrc hr0
 go_enter Tryz.func30, Tryz.ntmps30
 go_upto_region 1 with (fail)
 refine of_world (F := fun V => Below w.heap.size w V ∧ Box V w.heap.size h v l) ⟨box_new _, box_of⟩ ?_
 rintro W0 ⟨hb0, hx0⟩
 generalize hNN : w.heap.size = N1 at hx0 ⊢
 have HB0 := Lib.hid hb0; have HX0 := Lib.hid hx0
 clear hb0 hNN
 obtain ⟨-, -, -, -, -, -, -, -, b8, -, -, -, -, -, -, -, -, -, -⟩ := hx0
 generalize hrs : h.rhos = rs at *
 generalize hnn : rs.length = n at *
 have HN := Lib.hid hnn
 have hn50 : (n : Int) ≤ 50 := by omega
 clear hnn
 go_wp2_with (fail)
 go_loopw [3, 4, 8] (fun s _ i wr => ∃ j : Nat, j ≤ n ∧ i = .int .i64 (j : Int) ∧ s = .string (rhA (rs.take j)) ∧ Hid (Below W0.heap.size W0 wr)) (fun _ _ i _ => n - (intOf i).toNat)
 case atStart => exact ⟨0, Nat.zero_le _, rfl, rfl, Lib.hid (Below.refl _ _)⟩
 case round =>
  obtain ⟨j, hj, rfl, rfl, HS⟩ := hrel
  have hs0 := HSZ.out j
  rw [List.length_take] at hs0
  by_cases hlt : j < n
  ·have hjl : j < rs.length := by rw [HN.out]; exact hlt
   obtain ⟨b, o, hp, hc⟩ := HR.out.get j hjl
   have hHB := Below.trans HB.out (HB0.out.mono HB.out.size)
   have hc1 := ((below_then hHB HS.out (Nat.le_trans HB.out.size HB0.out.size)).cell (World.block_lt_of_cell? w0 _ hc)).trans hc
   obtain ⟨-, -, -, -, -, -, -, -, b8, -, -, -, -, -, -, -, -, -, -⟩ := HX0.out.below HS.out
   rw [hrs, HN.out] at b8
   rw [hp] at b8
   have hok := HR.out.ok _ (Effect.nget_mem hjl)
   have hpos := HR0.out _ (Effect.nget_mem hjl)
   have hdz := Effect.digs_size _ hpos hok.2
   have htk : rhA (rs.take (j + 1)) = (rhA (rs.take j) ++ ⟨#[32]⟩) ++ digs (Effect.nget rs j) := by
    rw [List.take_add_one, Effect.nget_at hjl]; exact rhA_snoc _ _
   have HTK := Lib.hid htk
   have hnum := refNum_walk (Effect.nget rs j) hok.1 hok.2
   generalize Effect.nget rs j = x at *
   have e1 : (⟨#[32]⟩ : ByteArray).size = 1 := rfl
   have ha0 := add_run (rhA (rs.take j)) ⟨#[32]⟩ _ rfl (by rw [ByteArray.size_append]; omega)
   have ha1 := add_run (rhA (rs.take j) ++ ⟨#[32]⟩) (digs x) _ rfl (by rw [ByteArray.size_append, ByteArray.size_append]; omega)
   have HNUM := Lib.hid hnum
   clear hc hHB hok hpos hdz htk hnum hs0 e1 hp hjl
   generalize rhA (rs.take j) = A0 at *
   generalize (A0 ++ ⟨#[32]⟩ : ByteArray) = A1 at *
   go_wp2_with (fail)
   refine (HNUM.out wr).mono ?_
   rintro e w2 ⟨rfl, hb2⟩
   have HS2 := Lib.hid (below_then HS.out hb2 HS.out.size)
   clear hb2 hc1 b8
   generalize digs x = D at *
   go_wp2_with (fail)
   go_roundw
   case rel => exact ⟨j + 1, by omega, by go_num, by rw [HTK.out], HS2⟩
   case measure => simp [intOf]; omega
  ·obtain rfl : j = n := by omega
   have e2 : (⟨#[32, 93]⟩ : ByteArray).size = 2 := rfl
   have ha0 := add_run (rhA (rs.take j)) ⟨#[32, 93]⟩ _ rfl (by rw [ByteArray.size_append]; omega)
   have HT := Lib.hid (show rhA (rs.take j) ++ ⟨#[32, 93]⟩ = rhT rs by unfold rhT; rw [List.take_of_length_le (by rw [HN.out]; exact Nat.le_refl _)])
   have HE := Lib.hid (below_then HB0.out HS.out HB0.out.size)
   clear hs0 e2
   go_wp2_with (fail)
   go_ret
   exact ⟨ret_str (by rw [hrs]; exact HT.out), HE.out⟩
/-- What is asked of Text. -/
def TextIs (w0 : World) (m : Nat) : Prop := ∀ (t : AT) (h : Hd) (v : V) (l : Nat) (w : World), wt t ≤ m → wt t ≤ 500 → allT nodeB t = true → allT smallB t = true → AtIs w0 h v l t → Below w0.heap.size w0 w →
 Calls Tryz.prog 13 #[.agg #[.int .u8 h.h.k, .int .u8 h.h.op, .int .i64 h.h.pl, .int .i64 h.h.n, .string h.h.name, .string h.h.arg, .string h.h.exn, .int .i64 h.rho, .slice v.ra h.rhos.length v.rc, .slice v.ea h.e.length v.ec, .int .u8 h.ty.h.k, .int .i64 h.ty.h.r, .slice v.tea h.ty.h.e.length v.tec, .slice v.tka h.ty.ks.length v.tkc, .int .u8 h.re.h.k, .int .i64 h.re.h.r, .slice v.sea h.re.h.e.length v.sec, .slice v.ska h.re.ks.length v.skc, .slice v.ka l v.kc]] w fun e w' => e = .returned (.string (jb (partsT t))) ∧ Below w.heap.size w w'
theorem ne_parts {t : AT} (h : allT nodeB t = true) (hs : allT smallB t = true) : partsT t ≠ [] := by
 have := (parts_len _ t (Nat.le_refl _) h (few_of hs)).1
 intro e
 rw [e] at this
 simp at this
theorem txs_new {B : Nat} {w : World} (hB : B ≤ w.heap.size) : Effect.Txs B (w.alloc (.cells #[] 9)) (.slice (some ⟨w.heap.size, 0, none⟩) 0 0) 0 [] :=
 ⟨rfl, .inr ⟨w.heap.size, 0, #[], rfl, hB, heap_alloc_new w _, Nat.le_refl _, by unfold maxLen; omega, rfl, rfl⟩⟩
theorem refEff_walk {w0 : World} {h : Hd} {v : V} (hI : HdIs w0 h v) (hg : Effect.greatB h.e = false) (W : World) (hb : Below w0.heap.size w0 W) :
  Calls Tryz.prog 28 #[.slice v.ea h.e.length v.ec] W fun e w' => e = .returned (.string (efT h.e)) ∧ Below W.heap.size W w' :=
 Effect.refText_walk (hI.eff.below hb).rd (by have := (Effect.great_no hg).1; omega) (Rt.sh_eff (n := 100) hI.eok (Effect.great_no hg).2 (by omega))
theorem refTyp_walk {w0 : World} {t : Rt.RT} {pe : Option Addr} {ce : Nat} {p : Option Addr} {c : Nat} (hT : Rt.RtIs w0 t.h pe t.h.e.length ce p t.ks.length c t) (hm : Rt.mayT t = true) (hg : Rt.greatT t = false) (W : World) (hb : Below w0.heap.size w0 W) :
  Calls Tryz.prog 29 #[.agg #[.int .u8 t.h.k, .int .i64 t.h.r, .slice pe t.h.e.length ce, .slice p t.ks.length c]] W fun e w' => e = .returned (.string (tyT t)) ∧ Below W.heap.size W w' := by
 have hs := Rt.small_eff hg
 have hsz := Rt.text_size hT hm (n := 100) (by omega) hs.2
 have h2 : (1007 * 100 + 21) * (8 * Rt.wt t) ≤ (1007 * 100 + 21) * (8 * 100) := Nat.mul_le_mul_left _ (by omega)
 exact Rt.refText_all w0 _ t t.h pe t.h.e.length ce p t.ks.length c W (Nat.le_refl _) hm (Rt.eff_more (by omega) hs.2) (by omega) hT hb
theorem boxTy {N1 : Nat} {h : Hd} {v : V} {l : Nat} {W : World} (k : Box W N1 h v l) : W.rangeAt N1 10 (rcells h.ty v.tea v.tec v.tka v.tkc) := by
 obtain ⟨b0, b1, b2, b3, b4, b5, b6, b7, b8, b9, b10, b11, b12, b13, b14, b15, b16, b17, b18⟩ := k
 intro j x hx
 match j, hx with
 | 0, hx => cases hx; exact b10
 | 1, hx => cases hx; exact b11
 | 2, hx => cases hx; exact b12
 | 3, hx => cases hx; exact b13
 | j + 4, hx => simp at hx
theorem boxRe {N1 : Nat} {h : Hd} {v : V} {l : Nat} {W : World} (k : Box W N1 h v l) : W.rangeAt N1 14 (rcells h.re v.sea v.sec v.ska v.skc) := by
 obtain ⟨b0, b1, b2, b3, b4, b5, b6, b7, b8, b9, b10, b11, b12, b13, b14, b15, b16, b17, b18⟩ := k
 intro j x hx
 match j, hx with
 | 0, hx => cases hx; exact b14
 | 1, hx => cases hx; exact b15
 | 2, hx => cases hx; exact b16
 | 3, hx => cases hx; exact b17
 | j + 4, hx => simp at hx
theorem signs_at (w6 : World) (k : Nat) (x : Value) (hx : (#[Value.string ⟨#[43]⟩, .string ⟨#[45]⟩, .string ⟨#[42]⟩, .string ⟨#[60]⟩, .string ⟨#[61]⟩] : Array Value)[k]? = some x) : (w6.alloc (.cells #[.string ⟨#[43]⟩, .string ⟨#[45]⟩, .string ⟨#[42]⟩, .string ⟨#[60]⟩, .string ⟨#[61]⟩] 9)).cell? ⟨w6.heap.size, k, none⟩ = some x := by
 simp only [World.cell?, heap_alloc_new]
 exact hx
end Disp
end Go.Proofs.YtfncpcijfphngaaGreatDoor
