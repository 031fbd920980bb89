/- The walk of the document's text of a type. -/
import Derived.Test.YtgcnibipikondaaDoorTyText
namespace Go.Proofs.YtgcnibipikondaaDoor
open Go.RowKit
set_option linter.unusedVariables false
set_option linter.unusedSimpArgs false
namespace Types

def TextIs (w0 : World) (m : Nat) : Prop := ∀ (t : Ty) (h : Hd) (p : Option Addr) (l c : Nat) (w : World), wt t ≤ m → wt t ≤ 2000 → mayT t = true → TyIs w0 h p l c t → Below w0.heap.size w0 w →
  Calls Tryd.prog 18 #[.agg #[.int .u8 h.k, .int .i64 h.v, .slice p l c]] w fun e w' => e = .returned (.string (jb (wordsT t))) ∧ Below w.heap.size w w'
theorem ret_st {a b : ByteArray} (h : a = b) : Ending.returned (.string a) = .returned (.string b) := by rw [h]

set_option maxRecDepth 100000 in
set_option maxHeartbeats 6400000 in
theorem ref_1 (w0 : World) (m : Nat) (hT : TextIs w0 m) (t : Ty) (v : Int) (p : Option Addr) (l c : Nat) (w : World) (hm : wt t ≤ m + 1) (hw : wt t ≤ 2000) (hok : mayT t = true) (hI : TyIs w0 ⟨1, v⟩ p l c t) (hb : Below w0.heap.size w0 w) :
    Calls Tryd.prog 18 #[.agg #[.int .u8 1, .int .i64 v, .slice p l c]] w fun e w' => e = .returned (.string (jb (wordsT t))) ∧ Below w.heap.size w w' := by
  have ew : wordsT t = [wInt] := by rw [wordsT_eq, hI.head]; rfl
  rw [ew, jb_one]
  clear hT hI hb ew hok
  go_enter Tryd.func18, Tryd.ntmps18
  go_wp2_with (fail)
  go_ret
  exact ⟨rfl, box_new _⟩

set_option maxRecDepth 100000 in
set_option maxHeartbeats 6400000 in
theorem ref_5 (w0 : World) (m : Nat) (hT : TextIs w0 m) (t : Ty) (v : Int) (p : Option Addr) (l c : Nat) (w : World) (hm : wt t ≤ m + 1) (hw : wt t ≤ 2000) (hok : mayT t = true) (hI : TyIs w0 ⟨5, v⟩ p l c t) (hb : Below w0.heap.size w0 w) :
    Calls Tryd.prog 18 #[.agg #[.int .u8 5, .int .i64 v, .slice p l c]] w fun e w' => e = .returned (.string (jb (wordsT t))) ∧ Below w.heap.size w w' := by
  have hv0 := (may_node hok).2.1
  rw [hI.head] at hv0
  have hv1 := hI.ok.v
  simp only at hv0 hv1
  have ew : wordsT t = [wVar v] := by rw [wordsT_eq, hI.head]; unfold comb; simp
  rw [ew, jb_one]
  have hadd := add_run ⟨#[63]⟩ (digs v) (wVar v) rfl (by have := wVar_size v hv0 hv1.2; omega)
  have hd := fun O => refDigits_walk v hv1.1 hv1.2 (w.alloc O)
  have hdv : (⟨(Lib.itoa v).toArray⟩ : ByteArray) = digs v := rfl
  rw [hdv] at hd
  have HD := Lib.hid hd
  clear hd hT hI hb ew hok hdv
  generalize digs v = dv at *
  generalize wVar v = wv at *
  go_enter Tryd.func18, Tryd.ntmps18
  go_wp2_with (fail)
  refine (HD.out _).mono ?_
  rintro e w1 ⟨rfl, hb1⟩
  have HB1 := Lib.hid ((box_new (w := w) (.cells #[.int .u8 5, .int .i64 v, .slice p l c] 24)).trans (hb1.mono (by simp)))
  clear hb1
  go_wp2_with (fail)
  go_ret
  exact ⟨rfl, HB1.out⟩

set_option maxRecDepth 100000 in
set_option maxHeartbeats 6400000 in
theorem ref_2 (w0 : World) (m : Nat) (hT : TextIs w0 m) (t : Ty) (v : Int) (p : Option Addr) (l c : Nat) (w : World) (hm : wt t ≤ m + 1) (hw : wt t ≤ 2000) (hok : mayT t = true) (hI : TyIs w0 ⟨2, v⟩ p l c t) (hb : Below w0.heap.size w0 w) :
    Calls Tryd.prog 18 #[.agg #[.int .u8 2, .int .i64 v, .slice p l c]] w fun e w' => e = .returned (.string (jb (wordsT t))) ∧ Below w.heap.size w w' := by
  have hlen := hI.len
  have hnode := (may_node hok).1
  rw [hI.head] at hnode
  have hcap := hI.cap
  obtain rfl : l = 2 := by simp at hnode; omega
  obtain ⟨b, o, rfl, hk⟩ := kid_at hI (by omega)
  obtain ⟨q0, d0, hI0, hc0⟩ := hk 0 (by omega)
  have ok0 := may_kid hok (i := 0) (by omega)
  have ne0 := words_nil ok0
  rw [show o + 0 * 3 = o from by omega] at hc0
  obtain ⟨q1, d1, hI1, hc1⟩ := hk 1 (by omega)
  have ok1 := may_kid hok (i := 1) (by omega)
  have ne1 := words_nil ok1
  rw [show o + 1 * 3 = o + 3 from by omega] at hc1
  have hww := wt2 (t := t) (by omega)
  have hsz := text_size hI hok
  have hkd0 := kd_get (show 0 < t.ks.length by omega)
  have hkd1 := kd_get (show 1 < t.ks.length by omega)
  have ew : jb (wordsT t) = (((((⟨#[40, 32]⟩ : ByteArray) ++ jb (wordsT (tget t.ks 0))) ++ (⟨#[32, 42, 32]⟩ : ByteArray)) ++ jb (wordsT (tget t.ks 1))) ++ (⟨#[32, 41]⟩ : ByteArray)) := by
    rw [wordsT_eq, hI.head]
    unfold comb
    apply bl_inj
    simp [hkd0, hkd1, tightW, bl_append, bl_app, bl_cons, bl_one, List.append_assoc, ne0, ne1]
    try simp [bl, wOpen, wShut, wStar, wRef, wArrow]
  rw [ew] at hsz ⊢
  simp only [ByteArray.size_append] at hsz
  have haX1 := add_run ((⟨#[40, 32]⟩ : ByteArray)) (jb (wordsT (tget t.ks 0))) _ rfl (by simp only [ByteArray.size_append]; omega)
  have haX2 := add_run (((⟨#[40, 32]⟩ : ByteArray) ++ jb (wordsT (tget t.ks 0)))) ((⟨#[32, 42, 32]⟩ : ByteArray)) _ rfl (by simp only [ByteArray.size_append]; omega)
  have haX3 := add_run ((((⟨#[40, 32]⟩ : ByteArray) ++ jb (wordsT (tget t.ks 0))) ++ (⟨#[32, 42, 32]⟩ : ByteArray))) (jb (wordsT (tget t.ks 1))) _ rfl (by simp only [ByteArray.size_append]; omega)
  have haX4 := add_run (((((⟨#[40, 32]⟩ : ByteArray) ++ jb (wordsT (tget t.ks 0))) ++ (⟨#[32, 42, 32]⟩ : ByteArray)) ++ jb (wordsT (tget t.ks 1)))) ((⟨#[32, 41]⟩ : ByteArray)) _ rfl (by simp only [ByteArray.size_append]; omega)
  have hp0 := fun W hb => hT (tget t.ks 0) _ q0 _ d0 W (by omega) (by omega) ok0 hI0 hb
  have hp1 := fun W hb => hT (tget t.ks 1) _ q1 _ d1 W (by omega) (by omega) ok1 hI1 hb
  have hX : ∀ W, Below (w.alloc (.cells #[.int .u8 2, .int .i64 v, .slice (some ⟨b, o, none⟩) 2 c] 24)).heap.size (w.alloc (.cells #[.int .u8 2, .int .i64 v, .slice (some ⟨b, o, none⟩) 2 c] 24)) W → W.cell? ⟨w.heap.size, 0, none⟩ = some (.int .u8 2) ∧ W.cell? ⟨w.heap.size, 1, none⟩ = some (.int .i64 v) ∧ W.cell? ⟨w.heap.size, 2, none⟩ = some (.slice (some ⟨b, o, none⟩) 2 c) := fun W hb => box3 rfl hb
  have hcl : c ≤ 9223372036854775807 := hcap.2
  have hcq := hcap.1
  have HB := Lib.hid hb; have HX := Lib.hid hX; have HP0 := Lib.hid hp0; have HC0 := Lib.hid hc0; have HP1 := Lib.hid hp1; have HC1 := Lib.hid hc1
  clear hb hX hT hI hok hm hw hlen hnode hcap hk hww hsz ew hkd0 hkd1 hp0 hc0 hI0 ok0 ne0 hp1 hc1 hI1 ok1 ne1
  generalize jb (wordsT (tget t.ks 0)) = J0 at *
  generalize jb (wordsT (tget t.ks 1)) = J1 at *
  generalize ((⟨#[40, 32]⟩ : ByteArray) ++ J0 : ByteArray) = X1 at *
  generalize (X1 ++ (⟨#[32, 42, 32]⟩ : ByteArray) : ByteArray) = X2 at *
  generalize (X2 ++ J1 : ByteArray) = X3 at *
  generalize (X3 ++ (⟨#[32, 41]⟩ : ByteArray) : ByteArray) = X4 at *
  obtain ⟨a0, a1, a2⟩ := HC0.out _ (HB.out.alloc HB.out.size (.cells #[.int .u8 2, .int .i64 v, .slice (some ⟨b, o, none⟩) 2 c] 24))
  go_enter Tryd.func18, Tryd.ntmps18
  go_wp2_with (fail)
  refine (HP0.out _ (HB.out.alloc HB.out.size _)).mono ?_
  rintro e w1 ⟨rfl, hb1⟩
  have HB1 := Lib.hid hb1
  obtain ⟨c0, c1, c2⟩ := HX.out _ hb1
  have hbw1 := below_row (Below.refl w.heap.size w) hb1 (Nat.le_refl _)
  have HW1 := Lib.hid hbw1
  clear a0 a1 a2
  obtain ⟨g0, g1, g2⟩ := HC1.out _ (HB.out.trans (hbw1.mono HB.out.size))
  clear hb1 hbw1
  go_wp2_with (fail)
  refine (HP1.out _ (HB.out.trans (HW1.out.mono HB.out.size))).mono ?_
  rintro e w2 ⟨rfl, hb2⟩
  have HW2 := Lib.hid (below_then HW1.out hb2 HW1.out.size)
  clear hb2 c0 c1 c2 g0 g1 g2
  go_wp2_with (fail)
  go_ret
  exact ⟨rfl, HW2.out⟩

set_option maxRecDepth 100000 in
set_option maxHeartbeats 6400000 in
theorem ref_3a (w0 : World) (m : Nat) (hT : TextIs w0 m) (t : Ty) (v : Int) (p : Option Addr) (l c : Nat) (w : World) (hm : wt t ≤ m + 1) (hw : wt t ≤ 2000) (hok : mayT t = true) (hI : TyIs w0 ⟨3, v⟩ p l c t) (hb : Below w0.heap.size w0 w) (h4 : (tget t.ks 0).h.k = 4) :
    Calls Tryd.prog 18 #[.agg #[.int .u8 3, .int .i64 v, .slice p l c]] w fun e w' => e = .returned (.string (jb (wordsT t))) ∧ Below w.heap.size w w' := by
  have hlen := hI.len
  have hnode := (may_node hok).1
  rw [hI.head] at hnode
  have hcap := hI.cap
  obtain rfl : l = 1 := by simp at hnode; omega
  obtain ⟨b, o, rfl, hk⟩ := kid_at hI (by omega)
  obtain ⟨q0, d0, hI0, hc0⟩ := hk 0 (by omega)
  have ok0 := may_kid hok (i := 0) (by omega)
  have ne0 := words_nil ok0
  rw [show o + 0 * 3 = o from by omega] at hc0
  have hww := wt1 (t := t) (by omega)
  have hsz := text_size hI hok
  have hkd0 := kd_get (show 0 < t.ks.length by omega)
  have ew : jb (wordsT t) = ((⟨#[114, 101, 102, 32]⟩ : ByteArray) ++ (((⟨#[40, 32]⟩ : ByteArray) ++ jb (wordsT (tget t.ks 0))) ++ (⟨#[32, 41]⟩ : ByteArray))) := by
    rw [wordsT_eq, hI.head]
    unfold comb
    apply bl_inj
    simp [hkd0, tightW, h4, bl_append, bl_app, bl_cons, bl_one, List.append_assoc, ne0]
    try simp [bl, wOpen, wShut, wStar, wRef, wArrow]
  rw [ew] at hsz ⊢
  simp only [ByteArray.size_append] at hsz
  have haX1 := add_run ((⟨#[40, 32]⟩ : ByteArray)) (jb (wordsT (tget t.ks 0))) _ rfl (by simp only [ByteArray.size_append]; omega)
  have haX2 := add_run (((⟨#[40, 32]⟩ : ByteArray) ++ jb (wordsT (tget t.ks 0)))) ((⟨#[32, 41]⟩ : ByteArray)) _ rfl (by simp only [ByteArray.size_append]; omega)
  have haX3 := add_run ((⟨#[114, 101, 102, 32]⟩ : ByteArray)) ((((⟨#[40, 32]⟩ : ByteArray) ++ jb (wordsT (tget t.ks 0))) ++ (⟨#[32, 41]⟩ : ByteArray))) _ rfl (by simp only [ByteArray.size_append]; omega)
  have hp0 := fun W hb => hT (tget t.ks 0) _ q0 _ d0 W (by omega) (by omega) ok0 hI0 hb
  have hX : ∀ W, Below (w.alloc (.cells #[.int .u8 3, .int .i64 v, .slice (some ⟨b, o, none⟩) 1 c] 24)).heap.size (w.alloc (.cells #[.int .u8 3, .int .i64 v, .slice (some ⟨b, o, none⟩) 1 c] 24)) W → W.cell? ⟨w.heap.size, 0, none⟩ = some (.int .u8 3) ∧ W.cell? ⟨w.heap.size, 1, none⟩ = some (.int .i64 v) ∧ W.cell? ⟨w.heap.size, 2, none⟩ = some (.slice (some ⟨b, o, none⟩) 1 c) := fun W hb => box3 rfl hb
  have hcl : c ≤ 9223372036854775807 := hcap.2
  have hcq := hcap.1
  have n4 : ((tget t.ks 0).h.k == 4) = true := by simpa using h4
  have HB := Lib.hid hb; have HX := Lib.hid hX; have HP0 := Lib.hid hp0; have HC0 := Lib.hid hc0
  clear hb hX hT hI hok hm hw hlen hnode hcap hk hww hsz ew hkd0 hp0 hc0 hI0 ok0 ne0 h4
  generalize jb (wordsT (tget t.ks 0)) = J0 at *
  generalize ((⟨#[40, 32]⟩ : ByteArray) ++ J0 : ByteArray) = X1 at *
  generalize (X1 ++ (⟨#[32, 41]⟩ : ByteArray) : ByteArray) = X2 at *
  generalize ((⟨#[114, 101, 102, 32]⟩ : ByteArray) ++ X2 : ByteArray) = X3 at *
  obtain ⟨a0, a1, a2⟩ := HC0.out _ (HB.out.alloc HB.out.size (.cells #[.int .u8 3, .int .i64 v, .slice (some ⟨b, o, none⟩) 1 c] 24))
  go_enter Tryd.func18, Tryd.ntmps18
  go_wp2_with (fail)
  refine (HP0.out _ (HB.out.alloc HB.out.size _)).mono ?_
  rintro e w1 ⟨rfl, hb1⟩
  have HB1 := Lib.hid hb1
  obtain ⟨c0, c1, c2⟩ := HX.out _ hb1
  have hbw1 := below_row (Below.refl w.heap.size w) hb1 (Nat.le_refl _)
  have HW1 := Lib.hid hbw1
  clear a0 a1 a2
  obtain ⟨a0, a1, a2⟩ := HC0.out _ (HB.out.trans (hbw1.mono HB.out.size))
  clear hb1 hbw1
  go_wp2_with (fail)
  go_ret
  exact ⟨rfl, HW1.out⟩

set_option maxRecDepth 100000 in
set_option maxHeartbeats 6400000 in
theorem ref_3b (w0 : World) (m : Nat) (hT : TextIs w0 m) (t : Ty) (v : Int) (p : Option Addr) (l c : Nat) (w : World) (hm : wt t ≤ m + 1) (hw : wt t ≤ 2000) (hok : mayT t = true) (hI : TyIs w0 ⟨3, v⟩ p l c t) (hb : Below w0.heap.size w0 w) (h4 : (tget t.ks 0).h.k ≠ 4) :
    Calls Tryd.prog 18 #[.agg #[.int .u8 3, .int .i64 v, .slice p l c]] w fun e w' => e = .returned (.string (jb (wordsT t))) ∧ Below w.heap.size w w' := by
  have hlen := hI.len
  have hnode := (may_node hok).1
  rw [hI.head] at hnode
  have hcap := hI.cap
  obtain rfl : l = 1 := by simp at hnode; omega
  obtain ⟨b, o, rfl, hk⟩ := kid_at hI (by omega)
  obtain ⟨q0, d0, hI0, hc0⟩ := hk 0 (by omega)
  have ok0 := may_kid hok (i := 0) (by omega)
  have ne0 := words_nil ok0
  rw [show o + 0 * 3 = o from by omega] at hc0
  have hww := wt1 (t := t) (by omega)
  have hsz := text_size hI hok
  have hkd0 := kd_get (show 0 < t.ks.length by omega)
  have ew : jb (wordsT t) = ((⟨#[114, 101, 102, 32]⟩ : ByteArray) ++ jb (wordsT (tget t.ks 0))) := by
    rw [wordsT_eq, hI.head]
    unfold comb
    apply bl_inj
    simp [hkd0, tightW, h4, bl_append, bl_app, bl_cons, bl_one, List.append_assoc, ne0]
    try simp [bl, wOpen, wShut, wStar, wRef, wArrow]
  rw [ew] at hsz ⊢
  simp only [ByteArray.size_append] at hsz
  have haX1 := add_run ((⟨#[114, 101, 102, 32]⟩ : ByteArray)) (jb (wordsT (tget t.ks 0))) _ rfl (by simp only [ByteArray.size_append]; omega)
  have hp0 := fun W hb => hT (tget t.ks 0) _ q0 _ d0 W (by omega) (by omega) ok0 hI0 hb
  have hX : ∀ W, Below (w.alloc (.cells #[.int .u8 3, .int .i64 v, .slice (some ⟨b, o, none⟩) 1 c] 24)).heap.size (w.alloc (.cells #[.int .u8 3, .int .i64 v, .slice (some ⟨b, o, none⟩) 1 c] 24)) W → W.cell? ⟨w.heap.size, 0, none⟩ = some (.int .u8 3) ∧ W.cell? ⟨w.heap.size, 1, none⟩ = some (.int .i64 v) ∧ W.cell? ⟨w.heap.size, 2, none⟩ = some (.slice (some ⟨b, o, none⟩) 1 c) := fun W hb => box3 rfl hb
  have hcl : c ≤ 9223372036854775807 := hcap.2
  have hcq := hcap.1
  have n4 : ((tget t.ks 0).h.k == 4) = false := by simpa using h4
  have HB := Lib.hid hb; have HX := Lib.hid hX; have HP0 := Lib.hid hp0; have HC0 := Lib.hid hc0
  clear hb hX hT hI hok hm hw hlen hnode hcap hk hww hsz ew hkd0 hp0 hc0 hI0 ok0 ne0 h4
  generalize jb (wordsT (tget t.ks 0)) = J0 at *
  generalize ((⟨#[114, 101, 102, 32]⟩ : ByteArray) ++ J0 : ByteArray) = X1 at *
  obtain ⟨a0, a1, a2⟩ := HC0.out _ (HB.out.alloc HB.out.size (.cells #[.int .u8 3, .int .i64 v, .slice (some ⟨b, o, none⟩) 1 c] 24))
  go_enter Tryd.func18, Tryd.ntmps18
  go_wp2_with (fail)
  refine (HP0.out _ (HB.out.alloc HB.out.size _)).mono ?_
  rintro e w1 ⟨rfl, hb1⟩
  have HB1 := Lib.hid hb1
  obtain ⟨c0, c1, c2⟩ := HX.out _ hb1
  have hbw1 := below_row (Below.refl w.heap.size w) hb1 (Nat.le_refl _)
  have HW1 := Lib.hid hbw1
  clear a0 a1 a2
  obtain ⟨a0, a1, a2⟩ := HC0.out _ (HB.out.trans (hbw1.mono HB.out.size))
  clear hb1 hbw1
  go_wp2_with (fail)
  go_ret
  exact ⟨rfl, HW1.out⟩

set_option maxRecDepth 100000 in
set_option maxHeartbeats 6400000 in
theorem ref_4a (w0 : World) (m : Nat) (hT : TextIs w0 m) (t : Ty) (v : Int) (p : Option Addr) (l c : Nat) (w : World) (hm : wt t ≤ m + 1) (hw : wt t ≤ 2000) (hok : mayT t = true) (hI : TyIs w0 ⟨4, v⟩ p l c t) (hb : Below w0.heap.size w0 w) (h4 : (tget t.ks 0).h.k = 4) :
    Calls Tryd.prog 18 #[.agg #[.int .u8 4, .int .i64 v, .slice p l c]] w fun e w' => e = .returned (.string (jb (wordsT t))) ∧ Below w.heap.size w w' := by
  have hlen := hI.len
  have hnode := (may_node hok).1
  rw [hI.head] at hnode
  have hcap := hI.cap
  obtain rfl : l = 2 := by simp at hnode; omega
  obtain ⟨b, o, rfl, hk⟩ := kid_at hI (by omega)
  obtain ⟨q0, d0, hI0, hc0⟩ := hk 0 (by omega)
  have ok0 := may_kid hok (i := 0) (by omega)
  have ne0 := words_nil ok0
  rw [show o + 0 * 3 = o from by omega] at hc0
  obtain ⟨q1, d1, hI1, hc1⟩ := hk 1 (by omega)
  have ok1 := may_kid hok (i := 1) (by omega)
  have ne1 := words_nil ok1
  rw [show o + 1 * 3 = o + 3 from by omega] at hc1
  have hww := wt2 (t := t) (by omega)
  have hsz := text_size hI hok
  have hkd0 := kd_get (show 0 < t.ks.length by omega)
  have hkd1 := kd_get (show 1 < t.ks.length by omega)
  have ew : jb (wordsT t) = (((((⟨#[40, 32]⟩ : ByteArray) ++ jb (wordsT (tget t.ks 0))) ++ (⟨#[32, 41]⟩ : ByteArray)) ++ (⟨#[32, 45, 62, 32]⟩ : ByteArray)) ++ jb (wordsT (tget t.ks 1))) := by
    rw [wordsT_eq, hI.head]
    unfold comb
    apply bl_inj
    simp [hkd0, hkd1, tightW, h4, bl_append, bl_app, bl_cons, bl_one, List.append_assoc, ne0, ne1]
    try simp [bl, wOpen, wShut, wStar, wRef, wArrow]
  rw [ew] at hsz ⊢
  simp only [ByteArray.size_append] at hsz
  have haX1 := add_run ((⟨#[40, 32]⟩ : ByteArray)) (jb (wordsT (tget t.ks 0))) _ rfl (by simp only [ByteArray.size_append]; omega)
  have haX2 := add_run (((⟨#[40, 32]⟩ : ByteArray) ++ jb (wordsT (tget t.ks 0)))) ((⟨#[32, 41]⟩ : ByteArray)) _ rfl (by simp only [ByteArray.size_append]; omega)
  have haX3 := add_run ((((⟨#[40, 32]⟩ : ByteArray) ++ jb (wordsT (tget t.ks 0))) ++ (⟨#[32, 41]⟩ : ByteArray))) ((⟨#[32, 45, 62, 32]⟩ : ByteArray)) _ rfl (by simp only [ByteArray.size_append]; omega)
  have haX4 := add_run (((((⟨#[40, 32]⟩ : ByteArray) ++ jb (wordsT (tget t.ks 0))) ++ (⟨#[32, 41]⟩ : ByteArray)) ++ (⟨#[32, 45, 62, 32]⟩ : ByteArray))) (jb (wordsT (tget t.ks 1))) _ rfl (by simp only [ByteArray.size_append]; omega)
  have hp0 := fun W hb => hT (tget t.ks 0) _ q0 _ d0 W (by omega) (by omega) ok0 hI0 hb
  have hp1 := fun W hb => hT (tget t.ks 1) _ q1 _ d1 W (by omega) (by omega) ok1 hI1 hb
  have hX : ∀ W, Below (w.alloc (.cells #[.int .u8 4, .int .i64 v, .slice (some ⟨b, o, none⟩) 2 c] 24)).heap.size (w.alloc (.cells #[.int .u8 4, .int .i64 v, .slice (some ⟨b, o, none⟩) 2 c] 24)) W → W.cell? ⟨w.heap.size, 0, none⟩ = some (.int .u8 4) ∧ W.cell? ⟨w.heap.size, 1, none⟩ = some (.int .i64 v) ∧ W.cell? ⟨w.heap.size, 2, none⟩ = some (.slice (some ⟨b, o, none⟩) 2 c) := fun W hb => box3 rfl hb
  have hcl : c ≤ 9223372036854775807 := hcap.2
  have hcq := hcap.1
  have n4 : ((tget t.ks 0).h.k == 4) = true := by simpa using h4
  have HB := Lib.hid hb; have HX := Lib.hid hX; have HP0 := Lib.hid hp0; have HC0 := Lib.hid hc0; have HP1 := Lib.hid hp1; have HC1 := Lib.hid hc1
  clear hb hX hT hI hok hm hw hlen hnode hcap hk hww hsz ew hkd0 hkd1 hp0 hc0 hI0 ok0 ne0 hp1 hc1 hI1 ok1 ne1 h4
  generalize jb (wordsT (tget t.ks 0)) = J0 at *
  generalize jb (wordsT (tget t.ks 1)) = J1 at *
  generalize ((⟨#[40, 32]⟩ : ByteArray) ++ J0 : ByteArray) = X1 at *
  generalize (X1 ++ (⟨#[32, 41]⟩ : ByteArray) : ByteArray) = X2 at *
  generalize (X2 ++ (⟨#[32, 45, 62, 32]⟩ : ByteArray) : ByteArray) = X3 at *
  generalize (X3 ++ J1 : ByteArray) = X4 at *
  obtain ⟨a0, a1, a2⟩ := HC0.out _ (HB.out.alloc HB.out.size (.cells #[.int .u8 4, .int .i64 v, .slice (some ⟨b, o, none⟩) 2 c] 24))
  go_enter Tryd.func18, Tryd.ntmps18
  go_wp2_with (fail)
  refine (HP0.out _ (HB.out.alloc HB.out.size _)).mono ?_
  rintro e w1 ⟨rfl, hb1⟩
  have HB1 := Lib.hid hb1
  obtain ⟨c0, c1, c2⟩ := HX.out _ hb1
  have hbw1 := below_row (Below.refl w.heap.size w) hb1 (Nat.le_refl _)
  have HW1 := Lib.hid hbw1
  clear a0 a1 a2
  obtain ⟨a0, a1, a2⟩ := HC0.out _ (HB.out.trans (hbw1.mono HB.out.size))
  obtain ⟨g0, g1, g2⟩ := HC1.out _ (HB.out.trans (hbw1.mono HB.out.size))
  clear hb1 hbw1
  go_wp2_with (fail)
  refine (HP1.out _ (HB.out.trans (HW1.out.mono HB.out.size))).mono ?_
  rintro e w2 ⟨rfl, hb2⟩
  have HW2 := Lib.hid (below_then HW1.out hb2 HW1.out.size)
  clear hb2 c0 c1 c2 g0 g1 g2 a0 a1 a2
  go_wp2_with (fail)
  go_ret
  exact ⟨rfl, HW2.out⟩

set_option maxRecDepth 100000 in
set_option maxHeartbeats 6400000 in
theorem ref_4b (w0 : World) (m : Nat) (hT : TextIs w0 m) (t : Ty) (v : Int) (p : Option Addr) (l c : Nat) (w : World) (hm : wt t ≤ m + 1) (hw : wt t ≤ 2000) (hok : mayT t = true) (hI : TyIs w0 ⟨4, v⟩ p l c t) (hb : Below w0.heap.size w0 w) (h4 : (tget t.ks 0).h.k ≠ 4) :
    Calls Tryd.prog 18 #[.agg #[.int .u8 4, .int .i64 v, .slice p l c]] w fun e w' => e = .returned (.string (jb (wordsT t))) ∧ Below w.heap.size w w' := by
  have hlen := hI.len
  have hnode := (may_node hok).1
  rw [hI.head] at hnode
  have hcap := hI.cap
  obtain rfl : l = 2 := by simp at hnode; omega
  obtain ⟨b, o, rfl, hk⟩ := kid_at hI (by omega)
  obtain ⟨q0, d0, hI0, hc0⟩ := hk 0 (by omega)
  have ok0 := may_kid hok (i := 0) (by omega)
  have ne0 := words_nil ok0
  rw [show o + 0 * 3 = o from by omega] at hc0
  obtain ⟨q1, d1, hI1, hc1⟩ := hk 1 (by omega)
  have ok1 := may_kid hok (i := 1) (by omega)
  have ne1 := words_nil ok1
  rw [show o + 1 * 3 = o + 3 from by omega] at hc1
  have hww := wt2 (t := t) (by omega)
  have hsz := text_size hI hok
  have hkd0 := kd_get (show 0 < t.ks.length by omega)
  have hkd1 := kd_get (show 1 < t.ks.length by omega)
  have ew : jb (wordsT t) = ((jb (wordsT (tget t.ks 0)) ++ (⟨#[32, 45, 62, 32]⟩ : ByteArray)) ++ jb (wordsT (tget t.ks 1))) := by
    rw [wordsT_eq, hI.head]
    unfold comb
    apply bl_inj
    simp [hkd0, hkd1, tightW, h4, bl_append, bl_app, bl_cons, bl_one, List.append_assoc, ne0, ne1]
    try simp [bl, wOpen, wShut, wStar, wRef, wArrow]
  rw [ew] at hsz ⊢
  simp only [ByteArray.size_append] at hsz
  have haX1 := add_run (jb (wordsT (tget t.ks 0))) ((⟨#[32, 45, 62, 32]⟩ : ByteArray)) _ rfl (by simp only [ByteArray.size_append]; omega)
  have haX2 := add_run ((jb (wordsT (tget t.ks 0)) ++ (⟨#[32, 45, 62, 32]⟩ : ByteArray))) (jb (wordsT (tget t.ks 1))) _ rfl (by simp only [ByteArray.size_append]; omega)
  have hp0 := fun W hb => hT (tget t.ks 0) _ q0 _ d0 W (by omega) (by omega) ok0 hI0 hb
  have hp1 := fun W hb => hT (tget t.ks 1) _ q1 _ d1 W (by omega) (by omega) ok1 hI1 hb
  have hX : ∀ W, Below (w.alloc (.cells #[.int .u8 4, .int .i64 v, .slice (some ⟨b, o, none⟩) 2 c] 24)).heap.size (w.alloc (.cells #[.int .u8 4, .int .i64 v, .slice (some ⟨b, o, none⟩) 2 c] 24)) W → W.cell? ⟨w.heap.size, 0, none⟩ = some (.int .u8 4) ∧ W.cell? ⟨w.heap.size, 1, none⟩ = some (.int .i64 v) ∧ W.cell? ⟨w.heap.size, 2, none⟩ = some (.slice (some ⟨b, o, none⟩) 2 c) := fun W hb => box3 rfl hb
  have hcl : c ≤ 9223372036854775807 := hcap.2
  have hcq := hcap.1
  have n4 : ((tget t.ks 0).h.k == 4) = false := by simpa using h4
  have HB := Lib.hid hb; have HX := Lib.hid hX; have HP0 := Lib.hid hp0; have HC0 := Lib.hid hc0; have HP1 := Lib.hid hp1; have HC1 := Lib.hid hc1
  clear hb hX hT hI hok hm hw hlen hnode hcap hk hww hsz ew hkd0 hkd1 hp0 hc0 hI0 ok0 ne0 hp1 hc1 hI1 ok1 ne1 h4
  generalize jb (wordsT (tget t.ks 0)) = J0 at *
  generalize jb (wordsT (tget t.ks 1)) = J1 at *
  generalize (J0 ++ (⟨#[32, 45, 62, 32]⟩ : ByteArray) : ByteArray) = X1 at *
  generalize (X1 ++ J1 : ByteArray) = X2 at *
  obtain ⟨a0, a1, a2⟩ := HC0.out _ (HB.out.alloc HB.out.size (.cells #[.int .u8 4, .int .i64 v, .slice (some ⟨b, o, none⟩) 2 c] 24))
  go_enter Tryd.func18, Tryd.ntmps18
  go_wp2_with (fail)
  refine (HP0.out _ (HB.out.alloc HB.out.size _)).mono ?_
  rintro e w1 ⟨rfl, hb1⟩
  have HB1 := Lib.hid hb1
  obtain ⟨c0, c1, c2⟩ := HX.out _ hb1
  have hbw1 := below_row (Below.refl w.heap.size w) hb1 (Nat.le_refl _)
  have HW1 := Lib.hid hbw1
  clear a0 a1 a2
  obtain ⟨a0, a1, a2⟩ := HC0.out _ (HB.out.trans (hbw1.mono HB.out.size))
  obtain ⟨g0, g1, g2⟩ := HC1.out _ (HB.out.trans (hbw1.mono HB.out.size))
  clear hb1 hbw1
  go_wp2_with (fail)
  refine (HP1.out _ (HB.out.trans (HW1.out.mono HB.out.size))).mono ?_
  rintro e w2 ⟨rfl, hb2⟩
  have HW2 := Lib.hid (below_then HW1.out hb2 HW1.out.size)
  clear hb2 c0 c1 c2 g0 g1 g2 a0 a1 a2
  go_wp2_with (fail)
  go_ret
  exact ⟨rfl, HW2.out⟩

/-- THE DOCUMENT'S TEXT. -/
theorem refText_all (w0 : World) : ∀ m, TextIs w0 m := by
  intro m
  induction m with
  | zero =>
    intro t h p l c w hm
    have := wt_pos t
    omega
  | succ m ih =>
    intro t h p l c w hm hw hok hI hb
    have hk := (may_node hok).1
    rw [hI.head] at hk
    obtain ⟨k, v⟩ := h
    simp only at hk
    have hh : k = 1 ∨ k = 2 ∨ k = 3 ∨ k = 4 ∨ k = 5 := by omega
    rcases hh with rfl | rfl | rfl | rfl | rfl
    · exact ref_1 w0 m ih t v p l c w hm hw hok hI hb
    · exact ref_2 w0 m ih t v p l c w hm hw hok hI hb
    · by_cases h4 : (tget t.ks 0).h.k = 4
      · exact ref_3a w0 m ih t v p l c w hm hw hok hI hb h4
      · exact ref_3b w0 m ih t v p l c w hm hw hok hI hb h4
    · by_cases h4 : (tget t.ks 0).h.k = 4
      · exact ref_4a w0 m ih t v p l c w hm hw hok hI hb h4
      · exact ref_4b w0 m ih t v p l c w hm hw hok hI hb h4
    · exact ref_5 w0 m ih t v p l c w hm hw hok hI hb
end Types
end Go.Proofs.YtgcnibipikondaaDoor
