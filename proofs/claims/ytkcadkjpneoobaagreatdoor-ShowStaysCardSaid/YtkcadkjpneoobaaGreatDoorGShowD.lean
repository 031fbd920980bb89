/-A term's text: mathematics; the document's part of the grammar. The document's text of a term of kind 4. (Written by wip/tools/showref.py.) The document's text of a term of kind 5. (Written by wip/tools/showref.py.) The document's text of a term of kind 6. (Written by wip/tools/showref.py.) The document's text of a term of kind 7. (Written by wip/tools/showref.py.) The document's text of a term of kind 3. (Written by wip/tools/showref.py.) The document's text of a term of kind 8. (Written by wip/tools/showref.py.) The document's text of a term of kind 10. (Written by wip/tools/showref.py.) -/
import Derived.Test.YtkcadkjpneoobaaGreatDoorGShowC
import Derived.Test.YtkcadkjpneoobaaGreatDoorGShowA
import Derived.Test.YtkcadkjpneoobaaGreatDoorGWordsB
import Derived.Deep.RegionHeld3
import Derived.LoopTactic
namespace Go.Proofs.YtkcadkjpneoobaaGreatDoor
open Go.RowKit
set_option linter.unusedVariables false
set_option linter.unusedSimpArgs false
namespace Show
open Parse (wLet wLetrec wIn wFn wIf wThen wElse wRaise wTry wWith wRef wFst wSnd wExn wIs wArrow wPut wLess wAdd wSub wMul wGet wOpen wShut wComma wSemi)
open Term (Tm Hd TmIs Kids tget wt wts okT okK mayT)
open Words (StrsAt sel nameB exnB)
open Token (jb)

/-- A text's bytes. -/
def bl (s : ByteArray) : List UInt8 := s.data.toList
theorem bl_append (a b : ByteArray) : bl (a ++ b) = bl a ++ bl b := by unfold bl; rw [ByteArray.data_append, Array.toList_append]
theorem bl_inj {a b : ByteArray} (h : bl a = bl b) : a = b := Words.bytes_ext h
theorem join_app (a b : List (List UInt8)) (ha : a ≠ []) (hb : b ≠ []) : Lib.join (a ++ b) [32] = Lib.join a [32] ++ 32 :: Lib.join b [32] := by
  cases a with
  | nil => exact absurd rfl ha
  | cons x r =>
    cases b with
    | nil => exact absurd rfl hb
    | cons y q =>
      rw [List.cons_append, Lib.join_cons, Lib.join_cons, Lib.join_cons]
      unfold Lib.joinTail
      simp [List.append_assoc]
theorem bl_jb (ss : List ByteArray) : bl (jb ss) = Lib.join (ss.map bl) [32] := Token.jb_list ss
theorem bl_app {a b : List ByteArray} (ha : a ≠ []) (hb : b ≠ []) : bl (jb (a ++ b)) = bl (jb a) ++ 32 :: bl (jb b) := by
  rw [bl_jb, bl_jb, bl_jb, List.map_append, join_app _ _ (by simpa using ha) (by simpa using hb)]
theorem bl_cons {x : ByteArray} {b : List ByteArray} (hb : b ≠ []) : bl (jb (x :: b)) = bl x ++ 32 :: bl (jb b) := by
  have := bl_app (a := [x]) (b := b) (by simp) hb
  rw [Token.jb_one] at this
  exact this
theorem bl_one (x : ByteArray) : bl (jb [x]) = bl x := by rw [Token.jb_one]
theorem words_nil {t : Tm} (h : okT t = true) : wordsT t ≠ [] := by
  have := words_pos _ t (Nat.le_refl _) h
  intro e
  rw [e] at this
  simp at this
theorem asW_nil {t : Tm} (h : okT t = true) (p : Int) : asW p (kdT t) ≠ [] := by
  unfold asW
  split
  · exact words_nil h
  · simp
theorem text_small {t : Tm} (h : okT t = true) (hw : wt t ≤ 4000) : (jb (wordsT t)).size ≤ 600000 := by
  have h1 := jb_size (wordsT t) (words_short _ t (Nat.le_refl _) h)
  have h2 := words_le h
  omega
theorem add_run (a b c : ByteArray) (h : a ++ b = c) (hs : c.size ≤ 1000000) (W : World) : (Op.stringOp .add a b).run Tryz.prog W = .ok (.string c) W := by
  rw [run_string_add_sum, h]
  have : c.size = a.size + b.size := by rw [← h, ByteArray.size_append]
  omega
theorem partR (k op : Int) (h : k = 9 → 1 ≤ op ∧ op ≤ 5) : partN k op = if k = 12 ∨ k = 13 ∨ k = 11 ∨ k = 14 ∨ k = 16 then 0 else if k = 8 then 1 else if k = 9 then (if op > 3 then 2 else if op < 3 then 3 else 4) else if k = 10 then 5 else 6 := by
  unfold partN opPartN
  by_cases h9 : k = 9
  · obtain ⟨h1, h2⟩ := h h9
    subst h9
    have hh : op = 1 ∨ op = 2 ∨ op = 3 ∨ op = 4 ∨ op = 5 := by omega
    rcases hh with rfl | rfl | rfl | rfl | rfl <;> decide
  · simp only [h9, if_false]
set_option maxRecDepth 10000 in
set_option maxHeartbeats 3200000 in
theorem refPart_walk (k op pl nn : Int) (nm ar ex : ByteArray) (p : Option Addr) (l c : Nat) (h0 : 1 ≤ k) (h1 : k ≤ 16) (h9 : k = 9 → 1 ≤ op ∧ op ≤ 5) (w : World) :
    Calls Tryz.prog 106 #[.agg #[.int .u8 k, .int .u8 op, .int .i64 pl, .int .i64 nn, .string nm, .string ar, .string ex, .slice p l c]] w fun e w' => e = .returned (.int .i64 (partN k op)) ∧ Below w.heap.size w w' := by
  have hbox : ∀ O : Obj, Below w.heap.size w (w.alloc O) := fun O => (Below.refl _ _).alloc (Nat.le_refl _) O
  have HBOX := Lib.hid hbox
  clear hbox
  by_cases hk : k = 9
  · subst hk
    obtain ⟨h2, h3⟩ := h9 rfl
    have hh : op = 1 ∨ op = 2 ∨ op = 3 ∨ op = 4 ∨ op = 5 := by omega
    clear h0 h1 h9 h2 h3
    rcases hh with rfl | rfl | rfl | rfl | rfl
    all_goals
      go_enter Tryz.func106, Tryz.ntmps106
      go_wp2_with (fail)
      go_ret
      exact ⟨ret_i64 (by decide), HBOX.out _⟩
  · have hh : k = 1 ∨ k = 2 ∨ k = 3 ∨ k = 4 ∨ k = 5 ∨ k = 6 ∨ k = 7 ∨ k = 8 ∨ k = 10 ∨ k = 11 ∨ k = 12 ∨ k = 13 ∨ k = 14 ∨ k = 15 ∨ k = 16 := by omega
    clear h0 h1 hk h9
    rcases hh with rfl | rfl | rfl | rfl | rfl | rfl | rfl | rfl | rfl | rfl | rfl | rfl | rfl | rfl | rfl
    all_goals
      go_enter Tryz.func106, Tryz.ntmps106
      go_wp2_with (fail)
      go_ret
      exact ⟨ret_i64 (by unfold partN; simp), HBOX.out _⟩
/-- What is asked of the document's text of terms with fewer nodes. -/
def TextIs (w0 : World) (m : Nat) : Prop := ∀ (t : Tm) (h : Hd) (p : Option Addr) (l c : Nat) (w : World), wt t ≤ m → wt t ≤ 4000 → okT t = true → TmIs w0 h p l c t → Below w0.heap.size w0 w →
  Calls Tryz.prog 40 #[.agg #[.int .u8 h.k, .int .u8 h.op, .int .i64 h.pl, .int .i64 h.n, .string h.name, .string h.arg, .string h.exn, .slice p l c]] w fun e w' => e = .returned (.string (jb (wordsT t))) ∧ Below w.heap.size w w'
set_option maxRecDepth 10000 in
set_option maxHeartbeats 3200000 in
theorem refAs_walk (w0 : World) (m : Nat) (hT : TextIs w0 m) (t : Tm) (h : Hd) (p : Option Addr) (l c : Nat) (pt : Int) (w : World) (hm : wt t ≤ m) (hw : wt t ≤ 4000) (hok : okT t = true) (hI : TmIs w0 h p l c t) (hb : Below w0.heap.size w0 w) :
    Calls Tryz.prog 77 #[.agg #[.int .u8 h.k, .int .u8 h.op, .int .i64 h.pl, .int .i64 h.n, .string h.name, .string h.arg, .string h.exn, .slice p l c], .int .i64 pt] w fun e w' => e = .returned (.string (jb (asW pt (kdT t)))) ∧ Below w.heap.size w w' := by
  have hbox : ∀ O : Obj, Below w.heap.size w (w.alloc O) := fun O => (Below.refl _ _).alloc (Nat.le_refl _) O
  have hkk := okT_kind hok
  have hop := (ok_kids hok).2.2
  rw [hI.head] at hkk hop
  have hpt : kdT t = (partN h.k h.op, wordsT t) := by unfold kdT; rw [hI.head]
  have htx := fun W hb => hT t h p l c W hm hw hok hI hb
  have hsz := text_small hok hw
  have hne := words_nil hok
  obtain ⟨k, op, pl, nn, nm, ar, ex⟩ := h
  have h9 : k = 9 → 1 ≤ op ∧ op ≤ 5 := fun e => by unfold Term.opOk at hop; simpa [e] using hop
  have hpart := fun W => refPart_walk k op pl nn nm ar ex p l c hkk.1 hkk.2 h9 W
  have hbw : ∀ W, Below w.heap.size w W → Below w0.heap.size w0 W := fun W h => hb.trans (h.mono hb.size)
  have hadd1 : ∀ W, (Op.stringOp .add ⟨#[40, 32]⟩ (jb (wordsT t))).run Tryz.prog W = .ok (.string (⟨#[40, 32]⟩ ++ jb (wordsT t))) W := fun W => add_run _ _ _ rfl (by rw [ByteArray.size_append]; have : (⟨#[40, 32]⟩ : ByteArray).size = 2 := rfl; omega) W
  have hadd2 : ∀ W, (Op.stringOp .add (⟨#[40, 32]⟩ ++ jb (wordsT t)) ⟨#[32, 41]⟩).run Tryz.prog W = .ok (.string (⟨#[40, 32]⟩ ++ jb (wordsT t) ++ ⟨#[32, 41]⟩)) W := fun W => add_run _ _ _ rfl (by rw [ByteArray.size_append, ByteArray.size_append]; have : (⟨#[40, 32]⟩ : ByteArray).size = 2 := rfl; have : (⟨#[32, 41]⟩ : ByteArray).size = 2 := rfl; omega) W
  have hyes : pt ≤ partN k op → jb (wordsT t) = jb (asW pt (kdT t)) := fun h => by unfold asW; rw [hpt, if_pos h]
  have hno : ¬ pt ≤ partN k op → ⟨#[40, 32]⟩ ++ jb (wordsT t) ++ ⟨#[32, 41]⟩ = jb (asW pt (kdT t)) := fun h => by
    unfold asW
    rw [hpt, if_neg h]
    apply bl_inj
    rw [bl_cons (by simp), bl_app hne (by simp), bl_one, bl_append, bl_append]
    have e1 : bl ⟨#[40, 32]⟩ = [40, 32] := rfl
    have e2 : bl ⟨#[32, 41]⟩ = [32, 41] := rfl
    have e3 : bl wOpen = [40] := rfl
    have e4 : bl wShut = [41] := rfl
    rw [e1, e2, e3, e4]
    simp
  have HPART := Lib.hid hpart; have HTX := Lib.hid htx; have HBW := Lib.hid hbw; have HBOX := Lib.hid hbox; have HYES := Lib.hid hyes; have HNO := Lib.hid hno
  have HA1 := Lib.hid hadd1; have HA2 := Lib.hid hadd2
  clear hpart htx hbw hbox hyes hno hadd1 hadd2 hT hI hb hok hm hw hkk hop hpt hsz hne h9
  go_enter Tryz.func77, Tryz.ntmps77
  go_wp2_with (fail)
  refine (HPART.out _).mono ?_
  rintro e w1 ⟨rfl, hb1⟩
  have hb1' := (HBOX.out _).trans (hb1.mono (by simp : w.heap.size ≤ _))
  obtain ⟨⟨b0, b1, b2, b3, b4, b5, b6, b7⟩, f0, f1, f2, f3, f4, f5, f6, f7⟩ := Parse.cells8' ((hb1.block _ (by simp)).trans (heap_alloc_new w _))
  have bl := World.block_lt_of_cell? w1 _ b0
  have HB1 := Lib.hid hb1'
  clear hb1 hb1'
  have hadd1 := HA1.out; have hadd2 := HA2.out
  generalize hJ : jb (wordsT t) = J at *
  generalize hX : (⟨#[40, 32]⟩ ++ J : ByteArray) = X at *
  generalize hY : (X ++ ⟨#[32, 41]⟩ : ByteArray) = Y at *
  clear HA1 HA2 hJ hX hY
  by_cases hpa : pt ≤ partN k op
  · have hz := HYES.out hpa
    have hlt : ¬ partN k op < pt := by omega
    have HZ := Lib.hid hz
    clear hz hpa HYES HNO hadd1 hadd2
    generalize partN k op = P at *
    go_wp2_with (fail)
    refine (HTX.out _ (HBW.out _ HB1.out)).mono ?_
    rintro e w2 ⟨rfl, hb2⟩
    have HB2 := Lib.hid (Term.below_then HB1.out hb2 HB1.out.size)
    clear hb2 b0 b1 b2 b3 b4 b5 b6 b7 f0 f1 f2 f3 f4 f5 f6 f7 bl
    go_wp2_with (fail)
    go_ret
    exact ⟨(by rw [HZ.out]; rfl), HB2.out⟩
  · have hz := HNO.out (by omega)
    have hlt : partN k op < pt := by omega
    have HZ := Lib.hid hz
    clear hz hpa HYES HNO
    generalize partN k op = P at *
    go_wp2_with (fail)
    refine (HTX.out _ (HBW.out _ HB1.out)).mono ?_
    rintro e w2 ⟨rfl, hb2⟩
    have HB2 := Lib.hid (Term.below_then HB1.out hb2 HB1.out.size)
    clear hb2 b0 b1 b2 b3 b4 b5 b6 b7 f0 f1 f2 f3 f4 f5 f6 f7 bl
    go_wp2_with (fail)
    go_ret
    exact ⟨(by rw [HZ.out]; rfl), HB2.out⟩
end Show
end Go.Proofs.YtkcadkjpneoobaaGreatDoor
namespace Go.Proofs.YtkcadkjpneoobaaGreatDoor
open Go.RowKit
set_option linter.unusedVariables false
set_option linter.unusedSimpArgs false
namespace Show
open Parse (wLet wLetrec wIn wFn wIf wThen wElse wRaise wTry wWith wRef wFst wSnd wExn wIs wArrow wPut wLess wAdd wSub wMul wGet wOpen wShut wComma wSemi)
open Term (Tm Hd TmIs Kids tget wt wts okT okK mayT)
open Words (StrsAt sel nameB exnB)
open Token (jb)
set_option maxRecDepth 100000 in
set_option maxHeartbeats 12800000 in
theorem ref_fst (w0 : World) (m : Nat) (hT : TextIs w0 m) (t : Tm) (op pl nn : Int) (nm ar ex : ByteArray) (p : Option Addr) (l c : Nat) (w : World)
    (hm : wt t ≤ m + 1) (hw : wt t ≤ 4000) (hok : okT t = true) (hI : TmIs w0 ⟨4, op, pl, nn, nm, ar, ex⟩ p l c t) (hb : Below w0.heap.size w0 w) :
    Calls Tryz.prog 40 #[.agg #[.int .u8 4, .int .u8 op, .int .i64 pl, .int .i64 nn, .string nm, .string ar, .string ex, .slice p l c]] w fun e w' => e = .returned (.string (jb (wordsT t))) ∧ Below w.heap.size w w' := by
  have hbox : ∀ O O' : Obj, Below w.heap.size w ((w.alloc O).alloc O') := fun O O' => ((Below.refl _ _).alloc (Nat.le_refl _) O).alloc (by simp) O'
  have hlen := hI.len
  have hkk := (ok_kids hok).1
  rw [hI.head] at hkk
  obtain rfl : l = 1 := by have e : Term.kidsN 4 = 1 := by decide
                           have hkk' : Term.kidsN 4 = (t.ks.length : Int) := hkk
                           omega
  obtain ⟨b, o, rfl, hk⟩ := kids_at hI (by omega)
  obtain ⟨q0, d0, hI0, hc0⟩ := hk 0 (by omega)
  rw [show o + 0 * 8 = o from by omega] at hc0
  have ok0 := kid_ok (i := 0) (by omega) hok
  have ne0 := words_nil ok0
  have hcap := hI.cap
  have hsz := text_small hok hw
  have ew : wordsT t = wFst :: asW 6 (kdT (tget t.ks 0)) := by
    rw [wordsT_eq, hI.head]
    unfold comb
    simp [kd_get (show 0 < t.ks.length by omega), kdT]
  have na0 := fun p => asW_nil ok0 p
  have hfull : (⟨#[102, 115, 116, 32]⟩ ++ jb (asW 6 (kdT (tget t.ks 0)))) = jb (wordsT t) := by
    apply bl_inj
    rw [ew]
    simp only [kdT] at *
    simp [bl_append, bl_app, bl_cons, bl_one, List.append_assoc, ne0, na0]
    try simp [bl, wFst]
  rw [← hfull] at hsz
  simp only [ByteArray.size_append] at hsz
  have ha0 : ∀ W, (Op.stringOp .add (⟨#[102, 115, 116, 32]⟩) (jb (asW 6 (kdT (tget t.ks 0))))).run Tryz.prog W = .ok (.string (⟨#[102, 115, 116, 32]⟩ ++ jb (asW 6 (kdT (tget t.ks 0))))) W := fun W => add_run _ _ _ rfl (by simp only [ByteArray.size_append]; omega) W
  have hk0 := fun W hb => refAs_walk w0 m hT (tget t.ks 0) _ q0 _ d0 6 W (kid_wt (by omega) hm) (by have := kid_wt (i := 0) (m := 3999) (t := t) (by omega) (by omega); omega) ok0 hI0 hb
  have hcl : c ≤ 9223372036854775807 := by have := hcap.2; unfold maxLen at this; exact this
  have hcq := hcap.1
  have HF := Lib.hid hfull; have HA0 := Lib.hid ha0; have HBOX := Lib.hid hbox; have HB := Lib.hid hb; have HK0 := Lib.hid hk0; have HC0 := Lib.hid hc0
  clear hbox hlen hkk hk hcap hsz ew hfull hT hI hb hok hm hw hI0 hc0 ok0 ne0 na0 ha0 hk0
  have ha0 := HA0.out
  clear HA0
  generalize jb (asW 6 (kdT (tget t.ks 0))) = J0 at *
  generalize hX0 : (⟨#[102, 115, 116, 32]⟩ ++ J0 : ByteArray) = X0 at *
  clear hX0
  obtain ⟨a0, a1, a2, a3, a4, a5, a6, a7, al⟩ := HC0.out _ (HB.out.trans ((HBOX.out (.cells #[.int .u8 4, .int .u8 op, .int .i64 pl, .int .i64 nn, .string nm, .string ar, .string ex, .slice (some ⟨b, o, none⟩) 1 c] 29) (.cells #[.string ⟨#[43]⟩, .string ⟨#[45]⟩, .string ⟨#[42]⟩, .string ⟨#[60]⟩, .string ⟨#[61]⟩] 9)).mono HB.out.size))
  go_enter Tryz.func40, Tryz.ntmps40
  go_wp2_with (fail)
  refine (HK0.out _ (HB.out.trans ((HBOX.out _ _).mono HB.out.size))).mono ?_
  rintro e w1 ⟨rfl, hb1⟩
  have HB1 := Lib.hid (Term.below_then (HBOX.out _ _) hb1 (HBOX.out _ _).size)
  clear hb1
  go_wp2_with (fail)
  go_ret
  exact ⟨(by rw [← HF.out]; rfl), HB1.out⟩
end Show
end Go.Proofs.YtkcadkjpneoobaaGreatDoor
namespace Go.Proofs.YtkcadkjpneoobaaGreatDoor
open Go.RowKit
set_option linter.unusedVariables false
set_option linter.unusedSimpArgs false
namespace Show
open Parse (wLet wLetrec wIn wFn wIf wThen wElse wRaise wTry wWith wRef wFst wSnd wExn wIs wArrow wPut wLess wAdd wSub wMul wGet wOpen wShut wComma wSemi)
open Term (Tm Hd TmIs Kids tget wt wts okT okK mayT)
open Words (StrsAt sel nameB exnB)
open Token (jb)
set_option maxRecDepth 100000 in
set_option maxHeartbeats 12800000 in
theorem ref_snd (w0 : World) (m : Nat) (hT : TextIs w0 m) (t : Tm) (op pl nn : Int) (nm ar ex : ByteArray) (p : Option Addr) (l c : Nat) (w : World)
    (hm : wt t ≤ m + 1) (hw : wt t ≤ 4000) (hok : okT t = true) (hI : TmIs w0 ⟨5, op, pl, nn, nm, ar, ex⟩ p l c t) (hb : Below w0.heap.size w0 w) :
    Calls Tryz.prog 40 #[.agg #[.int .u8 5, .int .u8 op, .int .i64 pl, .int .i64 nn, .string nm, .string ar, .string ex, .slice p l c]] w fun e w' => e = .returned (.string (jb (wordsT t))) ∧ Below w.heap.size w w' := by
  have hbox : ∀ O O' : Obj, Below w.heap.size w ((w.alloc O).alloc O') := fun O O' => ((Below.refl _ _).alloc (Nat.le_refl _) O).alloc (by simp) O'
  have hlen := hI.len
  have hkk := (ok_kids hok).1
  rw [hI.head] at hkk
  obtain rfl : l = 1 := by have e : Term.kidsN 5 = 1 := by decide
                           have hkk' : Term.kidsN 5 = (t.ks.length : Int) := hkk
                           omega
  obtain ⟨b, o, rfl, hk⟩ := kids_at hI (by omega)
  obtain ⟨q0, d0, hI0, hc0⟩ := hk 0 (by omega)
  rw [show o + 0 * 8 = o from by omega] at hc0
  have ok0 := kid_ok (i := 0) (by omega) hok
  have ne0 := words_nil ok0
  have hcap := hI.cap
  have hsz := text_small hok hw
  have ew : wordsT t = wSnd :: asW 6 (kdT (tget t.ks 0)) := by
    rw [wordsT_eq, hI.head]
    unfold comb
    simp [kd_get (show 0 < t.ks.length by omega), kdT]
  have na0 := fun p => asW_nil ok0 p
  have hfull : (⟨#[115, 110, 100, 32]⟩ ++ jb (asW 6 (kdT (tget t.ks 0)))) = jb (wordsT t) := by
    apply bl_inj
    rw [ew]
    simp only [kdT] at *
    simp [bl_append, bl_app, bl_cons, bl_one, List.append_assoc, ne0, na0]
    try simp [bl, wSnd]
  rw [← hfull] at hsz
  simp only [ByteArray.size_append] at hsz
  have ha0 : ∀ W, (Op.stringOp .add (⟨#[115, 110, 100, 32]⟩) (jb (asW 6 (kdT (tget t.ks 0))))).run Tryz.prog W = .ok (.string (⟨#[115, 110, 100, 32]⟩ ++ jb (asW 6 (kdT (tget t.ks 0))))) W := fun W => add_run _ _ _ rfl (by simp only [ByteArray.size_append]; omega) W
  have hk0 := fun W hb => refAs_walk w0 m hT (tget t.ks 0) _ q0 _ d0 6 W (kid_wt (by omega) hm) (by have := kid_wt (i := 0) (m := 3999) (t := t) (by omega) (by omega); omega) ok0 hI0 hb
  have hcl : c ≤ 9223372036854775807 := by have := hcap.2; unfold maxLen at this; exact this
  have hcq := hcap.1
  have HF := Lib.hid hfull; have HA0 := Lib.hid ha0; have HBOX := Lib.hid hbox; have HB := Lib.hid hb; have HK0 := Lib.hid hk0; have HC0 := Lib.hid hc0
  clear hbox hlen hkk hk hcap hsz ew hfull hT hI hb hok hm hw hI0 hc0 ok0 ne0 na0 ha0 hk0
  have ha0 := HA0.out
  clear HA0
  generalize jb (asW 6 (kdT (tget t.ks 0))) = J0 at *
  generalize hX0 : (⟨#[115, 110, 100, 32]⟩ ++ J0 : ByteArray) = X0 at *
  clear hX0
  obtain ⟨a0, a1, a2, a3, a4, a5, a6, a7, al⟩ := HC0.out _ (HB.out.trans ((HBOX.out (.cells #[.int .u8 5, .int .u8 op, .int .i64 pl, .int .i64 nn, .string nm, .string ar, .string ex, .slice (some ⟨b, o, none⟩) 1 c] 29) (.cells #[.string ⟨#[43]⟩, .string ⟨#[45]⟩, .string ⟨#[42]⟩, .string ⟨#[60]⟩, .string ⟨#[61]⟩] 9)).mono HB.out.size))
  go_enter Tryz.func40, Tryz.ntmps40
  go_wp2_with (fail)
  refine (HK0.out _ (HB.out.trans ((HBOX.out _ _).mono HB.out.size))).mono ?_
  rintro e w1 ⟨rfl, hb1⟩
  have HB1 := Lib.hid (Term.below_then (HBOX.out _ _) hb1 (HBOX.out _ _).size)
  clear hb1
  go_wp2_with (fail)
  go_ret
  exact ⟨(by rw [← HF.out]; rfl), HB1.out⟩
end Show
end Go.Proofs.YtkcadkjpneoobaaGreatDoor
namespace Go.Proofs.YtkcadkjpneoobaaGreatDoor
open Go.RowKit
set_option linter.unusedVariables false
set_option linter.unusedSimpArgs false
namespace Show
open Parse (wLet wLetrec wIn wFn wIf wThen wElse wRaise wTry wWith wRef wFst wSnd wExn wIs wArrow wPut wLess wAdd wSub wMul wGet wOpen wShut wComma wSemi)
open Term (Tm Hd TmIs Kids tget wt wts okT okK mayT)
open Words (StrsAt sel nameB exnB)
open Token (jb)
set_option maxRecDepth 100000 in
set_option maxHeartbeats 12800000 in
theorem ref_ref (w0 : World) (m : Nat) (hT : TextIs w0 m) (t : Tm) (op pl nn : Int) (nm ar ex : ByteArray) (p : Option Addr) (l c : Nat) (w : World)
    (hm : wt t ≤ m + 1) (hw : wt t ≤ 4000) (hok : okT t = true) (hI : TmIs w0 ⟨6, op, pl, nn, nm, ar, ex⟩ p l c t) (hb : Below w0.heap.size w0 w) :
    Calls Tryz.prog 40 #[.agg #[.int .u8 6, .int .u8 op, .int .i64 pl, .int .i64 nn, .string nm, .string ar, .string ex, .slice p l c]] w fun e w' => e = .returned (.string (jb (wordsT t))) ∧ Below w.heap.size w w' := by
  have hbox : ∀ O O' : Obj, Below w.heap.size w ((w.alloc O).alloc O') := fun O O' => ((Below.refl _ _).alloc (Nat.le_refl _) O).alloc (by simp) O'
  have hlen := hI.len
  have hkk := (ok_kids hok).1
  rw [hI.head] at hkk
  obtain rfl : l = 1 := by have e : Term.kidsN 6 = 1 := by decide
                           have hkk' : Term.kidsN 6 = (t.ks.length : Int) := hkk
                           omega
  obtain ⟨b, o, rfl, hk⟩ := kids_at hI (by omega)
  obtain ⟨q0, d0, hI0, hc0⟩ := hk 0 (by omega)
  rw [show o + 0 * 8 = o from by omega] at hc0
  have ok0 := kid_ok (i := 0) (by omega) hok
  have ne0 := words_nil ok0
  have hcap := hI.cap
  have hsz := text_small hok hw
  have ew : wordsT t = wRef :: asW 6 (kdT (tget t.ks 0)) := by
    rw [wordsT_eq, hI.head]
    unfold comb
    simp [kd_get (show 0 < t.ks.length by omega), kdT]
  have na0 := fun p => asW_nil ok0 p
  have hfull : (⟨#[114, 101, 102, 32]⟩ ++ jb (asW 6 (kdT (tget t.ks 0)))) = jb (wordsT t) := by
    apply bl_inj
    rw [ew]
    simp only [kdT] at *
    simp [bl_append, bl_app, bl_cons, bl_one, List.append_assoc, ne0, na0]
    try simp [bl, wRef]
  rw [← hfull] at hsz
  simp only [ByteArray.size_append] at hsz
  have ha0 : ∀ W, (Op.stringOp .add (⟨#[114, 101, 102, 32]⟩) (jb (asW 6 (kdT (tget t.ks 0))))).run Tryz.prog W = .ok (.string (⟨#[114, 101, 102, 32]⟩ ++ jb (asW 6 (kdT (tget t.ks 0))))) W := fun W => add_run _ _ _ rfl (by simp only [ByteArray.size_append]; omega) W
  have hk0 := fun W hb => refAs_walk w0 m hT (tget t.ks 0) _ q0 _ d0 6 W (kid_wt (by omega) hm) (by have := kid_wt (i := 0) (m := 3999) (t := t) (by omega) (by omega); omega) ok0 hI0 hb
  have hcl : c ≤ 9223372036854775807 := by have := hcap.2; unfold maxLen at this; exact this
  have hcq := hcap.1
  have HF := Lib.hid hfull; have HA0 := Lib.hid ha0; have HBOX := Lib.hid hbox; have HB := Lib.hid hb; have HK0 := Lib.hid hk0; have HC0 := Lib.hid hc0
  clear hbox hlen hkk hk hcap hsz ew hfull hT hI hb hok hm hw hI0 hc0 ok0 ne0 na0 ha0 hk0
  have ha0 := HA0.out
  clear HA0
  generalize jb (asW 6 (kdT (tget t.ks 0))) = J0 at *
  generalize hX0 : (⟨#[114, 101, 102, 32]⟩ ++ J0 : ByteArray) = X0 at *
  clear hX0
  obtain ⟨a0, a1, a2, a3, a4, a5, a6, a7, al⟩ := HC0.out _ (HB.out.trans ((HBOX.out (.cells #[.int .u8 6, .int .u8 op, .int .i64 pl, .int .i64 nn, .string nm, .string ar, .string ex, .slice (some ⟨b, o, none⟩) 1 c] 29) (.cells #[.string ⟨#[43]⟩, .string ⟨#[45]⟩, .string ⟨#[42]⟩, .string ⟨#[60]⟩, .string ⟨#[61]⟩] 9)).mono HB.out.size))
  go_enter Tryz.func40, Tryz.ntmps40
  go_wp2_with (fail)
  refine (HK0.out _ (HB.out.trans ((HBOX.out _ _).mono HB.out.size))).mono ?_
  rintro e w1 ⟨rfl, hb1⟩
  have HB1 := Lib.hid (Term.below_then (HBOX.out _ _) hb1 (HBOX.out _ _).size)
  clear hb1
  go_wp2_with (fail)
  go_ret
  exact ⟨(by rw [← HF.out]; rfl), HB1.out⟩
end Show
end Go.Proofs.YtkcadkjpneoobaaGreatDoor
namespace Go.Proofs.YtkcadkjpneoobaaGreatDoor
open Go.RowKit
set_option linter.unusedVariables false
set_option linter.unusedSimpArgs false
namespace Show
open Parse (wLet wLetrec wIn wFn wIf wThen wElse wRaise wTry wWith wRef wFst wSnd wExn wIs wArrow wPut wLess wAdd wSub wMul wGet wOpen wShut wComma wSemi)
open Term (Tm Hd TmIs Kids tget wt wts okT okK mayT)
open Words (StrsAt sel nameB exnB)
open Token (jb)
set_option maxRecDepth 100000 in
set_option maxHeartbeats 12800000 in
theorem ref_get (w0 : World) (m : Nat) (hT : TextIs w0 m) (t : Tm) (op pl nn : Int) (nm ar ex : ByteArray) (p : Option Addr) (l c : Nat) (w : World)
    (hm : wt t ≤ m + 1) (hw : wt t ≤ 4000) (hok : okT t = true) (hI : TmIs w0 ⟨7, op, pl, nn, nm, ar, ex⟩ p l c t) (hb : Below w0.heap.size w0 w) :
    Calls Tryz.prog 40 #[.agg #[.int .u8 7, .int .u8 op, .int .i64 pl, .int .i64 nn, .string nm, .string ar, .string ex, .slice p l c]] w fun e w' => e = .returned (.string (jb (wordsT t))) ∧ Below w.heap.size w w' := by
  have hbox : ∀ O O' : Obj, Below w.heap.size w ((w.alloc O).alloc O') := fun O O' => ((Below.refl _ _).alloc (Nat.le_refl _) O).alloc (by simp) O'
  have hlen := hI.len
  have hkk := (ok_kids hok).1
  rw [hI.head] at hkk
  obtain rfl : l = 1 := by have e : Term.kidsN 7 = 1 := by decide
                           have hkk' : Term.kidsN 7 = (t.ks.length : Int) := hkk
                           omega
  obtain ⟨b, o, rfl, hk⟩ := kids_at hI (by omega)
  obtain ⟨q0, d0, hI0, hc0⟩ := hk 0 (by omega)
  rw [show o + 0 * 8 = o from by omega] at hc0
  have ok0 := kid_ok (i := 0) (by omega) hok
  have ne0 := words_nil ok0
  have hcap := hI.cap
  have hsz := text_small hok hw
  have ew : wordsT t = wGet :: asW 6 (kdT (tget t.ks 0)) := by
    rw [wordsT_eq, hI.head]
    unfold comb
    simp [kd_get (show 0 < t.ks.length by omega), kdT]
  have na0 := fun p => asW_nil ok0 p
  have hfull : (⟨#[33, 32]⟩ ++ jb (asW 6 (kdT (tget t.ks 0)))) = jb (wordsT t) := by
    apply bl_inj
    rw [ew]
    simp only [kdT] at *
    simp [bl_append, bl_app, bl_cons, bl_one, List.append_assoc, ne0, na0]
    try simp [bl, wGet]
  rw [← hfull] at hsz
  simp only [ByteArray.size_append] at hsz
  have ha0 : ∀ W, (Op.stringOp .add (⟨#[33, 32]⟩) (jb (asW 6 (kdT (tget t.ks 0))))).run Tryz.prog W = .ok (.string (⟨#[33, 32]⟩ ++ jb (asW 6 (kdT (tget t.ks 0))))) W := fun W => add_run _ _ _ rfl (by simp only [ByteArray.size_append]; omega) W
  have hk0 := fun W hb => refAs_walk w0 m hT (tget t.ks 0) _ q0 _ d0 6 W (kid_wt (by omega) hm) (by have := kid_wt (i := 0) (m := 3999) (t := t) (by omega) (by omega); omega) ok0 hI0 hb
  have hcl : c ≤ 9223372036854775807 := by have := hcap.2; unfold maxLen at this; exact this
  have hcq := hcap.1
  have HF := Lib.hid hfull; have HA0 := Lib.hid ha0; have HBOX := Lib.hid hbox; have HB := Lib.hid hb; have HK0 := Lib.hid hk0; have HC0 := Lib.hid hc0
  clear hbox hlen hkk hk hcap hsz ew hfull hT hI hb hok hm hw hI0 hc0 ok0 ne0 na0 ha0 hk0
  have ha0 := HA0.out
  clear HA0
  generalize jb (asW 6 (kdT (tget t.ks 0))) = J0 at *
  generalize hX0 : (⟨#[33, 32]⟩ ++ J0 : ByteArray) = X0 at *
  clear hX0
  obtain ⟨a0, a1, a2, a3, a4, a5, a6, a7, al⟩ := HC0.out _ (HB.out.trans ((HBOX.out (.cells #[.int .u8 7, .int .u8 op, .int .i64 pl, .int .i64 nn, .string nm, .string ar, .string ex, .slice (some ⟨b, o, none⟩) 1 c] 29) (.cells #[.string ⟨#[43]⟩, .string ⟨#[45]⟩, .string ⟨#[42]⟩, .string ⟨#[60]⟩, .string ⟨#[61]⟩] 9)).mono HB.out.size))
  go_enter Tryz.func40, Tryz.ntmps40
  go_wp2_with (fail)
  refine (HK0.out _ (HB.out.trans ((HBOX.out _ _).mono HB.out.size))).mono ?_
  rintro e w1 ⟨rfl, hb1⟩
  have HB1 := Lib.hid (Term.below_then (HBOX.out _ _) hb1 (HBOX.out _ _).size)
  clear hb1
  go_wp2_with (fail)
  go_ret
  exact ⟨(by rw [← HF.out]; rfl), HB1.out⟩
end Show
end Go.Proofs.YtkcadkjpneoobaaGreatDoor
namespace Go.Proofs.YtkcadkjpneoobaaGreatDoor
open Go.RowKit
set_option linter.unusedVariables false
set_option linter.unusedSimpArgs false
namespace Show
open Parse (wLet wLetrec wIn wFn wIf wThen wElse wRaise wTry wWith wRef wFst wSnd wExn wIs wArrow wPut wLess wAdd wSub wMul wGet wOpen wShut wComma wSemi)
open Term (Tm Hd TmIs Kids tget wt wts okT okK mayT)
open Words (StrsAt sel nameB exnB)
open Token (jb)
set_option maxRecDepth 100000 in
set_option maxHeartbeats 12800000 in
theorem ref_pair (w0 : World) (m : Nat) (hT : TextIs w0 m) (t : Tm) (op pl nn : Int) (nm ar ex : ByteArray) (p : Option Addr) (l c : Nat) (w : World)
    (hm : wt t ≤ m + 1) (hw : wt t ≤ 4000) (hok : okT t = true) (hI : TmIs w0 ⟨3, op, pl, nn, nm, ar, ex⟩ p l c t) (hb : Below w0.heap.size w0 w) :
    Calls Tryz.prog 40 #[.agg #[.int .u8 3, .int .u8 op, .int .i64 pl, .int .i64 nn, .string nm, .string ar, .string ex, .slice p l c]] w fun e w' => e = .returned (.string (jb (wordsT t))) ∧ Below w.heap.size w w' := by
  have hbox : ∀ O O' : Obj, Below w.heap.size w ((w.alloc O).alloc O') := fun O O' => ((Below.refl _ _).alloc (Nat.le_refl _) O).alloc (by simp) O'
  have hlen := hI.len
  have hkk := (ok_kids hok).1
  rw [hI.head] at hkk
  obtain rfl : l = 2 := by have e : Term.kidsN 3 = 2 := by decide
                           have hkk' : Term.kidsN 3 = (t.ks.length : Int) := hkk
                           omega
  obtain ⟨b, o, rfl, hk⟩ := kids_at hI (by omega)
  obtain ⟨q0, d0, hI0, hc0⟩ := hk 0 (by omega)
  rw [show o + 0 * 8 = o from by omega] at hc0
  have ok0 := kid_ok (i := 0) (by omega) hok
  have ne0 := words_nil ok0
  obtain ⟨q1, d1, hI1, hc1⟩ := hk 1 (by omega)
  rw [show o + 1 * 8 = o + 8 from by omega] at hc1
  have ok1 := kid_ok (i := 1) (by omega) hok
  have ne1 := words_nil ok1
  have hcap := hI.cap
  have hsz := text_small hok hw
  have ew : wordsT t = wOpen :: (asW 0 (kdT (tget t.ks 0)) ++ wComma :: (asW 0 (kdT (tget t.ks 1)) ++ [wShut])) := by
    rw [wordsT_eq, hI.head]
    unfold comb signW twoW
    simp [kd_get (show 0 < t.ks.length by omega), kd_get (show 1 < t.ks.length by omega), kdT]
  have na0 := fun p => asW_nil ok0 p
  have na1 := fun p => asW_nil ok1 p
  have hfull : ((((⟨#[40, 32]⟩ ++ jb (asW 0 (kdT (tget t.ks 0)))) ++ ⟨#[32, 44, 32]⟩) ++ jb (asW 0 (kdT (tget t.ks 1)))) ++ ⟨#[32, 41]⟩) = jb (wordsT t) := by
    apply bl_inj
    rw [ew]
    simp only [kdT] at *
    simp [bl_append, bl_app, bl_cons, bl_one, List.append_assoc, ne0, na0, ne1, na1]
    try simp [bl, wComma, wOpen, wShut]
  rw [← hfull] at hsz
  simp only [ByteArray.size_append] at hsz
  have ha0 : ∀ W, (Op.stringOp .add (⟨#[40, 32]⟩) (jb (asW 0 (kdT (tget t.ks 0))))).run Tryz.prog W = .ok (.string (⟨#[40, 32]⟩ ++ jb (asW 0 (kdT (tget t.ks 0))))) W := fun W => add_run _ _ _ rfl (by simp only [ByteArray.size_append]; omega) W
  have ha1 : ∀ W, (Op.stringOp .add ((⟨#[40, 32]⟩ ++ jb (asW 0 (kdT (tget t.ks 0))))) (⟨#[32, 44, 32]⟩)).run Tryz.prog W = .ok (.string ((⟨#[40, 32]⟩ ++ jb (asW 0 (kdT (tget t.ks 0)))) ++ ⟨#[32, 44, 32]⟩)) W := fun W => add_run _ _ _ rfl (by simp only [ByteArray.size_append]; omega) W
  have ha2 : ∀ W, (Op.stringOp .add (((⟨#[40, 32]⟩ ++ jb (asW 0 (kdT (tget t.ks 0)))) ++ ⟨#[32, 44, 32]⟩)) (jb (asW 0 (kdT (tget t.ks 1))))).run Tryz.prog W = .ok (.string (((⟨#[40, 32]⟩ ++ jb (asW 0 (kdT (tget t.ks 0)))) ++ ⟨#[32, 44, 32]⟩) ++ jb (asW 0 (kdT (tget t.ks 1))))) W := fun W => add_run _ _ _ rfl (by simp only [ByteArray.size_append]; omega) W
  have ha3 : ∀ W, (Op.stringOp .add ((((⟨#[40, 32]⟩ ++ jb (asW 0 (kdT (tget t.ks 0)))) ++ ⟨#[32, 44, 32]⟩) ++ jb (asW 0 (kdT (tget t.ks 1))))) (⟨#[32, 41]⟩)).run Tryz.prog W = .ok (.string ((((⟨#[40, 32]⟩ ++ jb (asW 0 (kdT (tget t.ks 0)))) ++ ⟨#[32, 44, 32]⟩) ++ jb (asW 0 (kdT (tget t.ks 1)))) ++ ⟨#[32, 41]⟩)) W := fun W => add_run _ _ _ rfl (by simp only [ByteArray.size_append]; omega) W
  have hk0 := fun W hb => refAs_walk w0 m hT (tget t.ks 0) _ q0 _ d0 0 W (kid_wt (by omega) hm) (by have := kid_wt (i := 0) (m := 3999) (t := t) (by omega) (by omega); omega) ok0 hI0 hb
  have hk1 := fun W hb => refAs_walk w0 m hT (tget t.ks 1) _ q1 _ d1 0 W (kid_wt (by omega) hm) (by have := kid_wt (i := 1) (m := 3999) (t := t) (by omega) (by omega); omega) ok1 hI1 hb
  have hcl : c ≤ 9223372036854775807 := by have := hcap.2; unfold maxLen at this; exact this
  have hcq := hcap.1
  have hkeep : ∀ V W : World, (V.cell? ⟨b, o, none⟩ = some (.int .u8 (tget t.ks 0).h.k) ∧ V.cell? ⟨b, o + 1, none⟩ = some (.int .u8 (tget t.ks 0).h.op) ∧ V.cell? ⟨b, o + 2, none⟩ = some (.int .i64 (tget t.ks 0).h.pl) ∧ V.cell? ⟨b, o + 3, none⟩ = some (.int .i64 (tget t.ks 0).h.n) ∧ V.cell? ⟨b, o + 4, none⟩ = some (.string (tget t.ks 0).h.name) ∧ V.cell? ⟨b, o + 5, none⟩ = some (.string (tget t.ks 0).h.arg) ∧ V.cell? ⟨b, o + 6, none⟩ = some (.string (tget t.ks 0).h.exn) ∧ V.cell? ⟨b, o + 7, none⟩ = some (.slice q0 (tget t.ks 0).ks.length d0) ∧ V.cell? ⟨b, o + 8, none⟩ = some (.int .u8 (tget t.ks 1).h.k) ∧ V.cell? ⟨b, o + 8 + 1, none⟩ = some (.int .u8 (tget t.ks 1).h.op) ∧ V.cell? ⟨b, o + 8 + 2, none⟩ = some (.int .i64 (tget t.ks 1).h.pl) ∧ V.cell? ⟨b, o + 8 + 3, none⟩ = some (.int .i64 (tget t.ks 1).h.n) ∧ V.cell? ⟨b, o + 8 + 4, none⟩ = some (.string (tget t.ks 1).h.name) ∧ V.cell? ⟨b, o + 8 + 5, none⟩ = some (.string (tget t.ks 1).h.arg) ∧ V.cell? ⟨b, o + 8 + 6, none⟩ = some (.string (tget t.ks 1).h.exn) ∧ V.cell? ⟨b, o + 8 + 7, none⟩ = some (.slice q1 (tget t.ks 1).ks.length d1) ∧ Below w.heap.size w V) → Below V.heap.size V W → (W.cell? ⟨b, o, none⟩ = some (.int .u8 (tget t.ks 0).h.k) ∧ W.cell? ⟨b, o + 1, none⟩ = some (.int .u8 (tget t.ks 0).h.op) ∧ W.cell? ⟨b, o + 2, none⟩ = some (.int .i64 (tget t.ks 0).h.pl) ∧ W.cell? ⟨b, o + 3, none⟩ = some (.int .i64 (tget t.ks 0).h.n) ∧ W.cell? ⟨b, o + 4, none⟩ = some (.string (tget t.ks 0).h.name) ∧ W.cell? ⟨b, o + 5, none⟩ = some (.string (tget t.ks 0).h.arg) ∧ W.cell? ⟨b, o + 6, none⟩ = some (.string (tget t.ks 0).h.exn) ∧ W.cell? ⟨b, o + 7, none⟩ = some (.slice q0 (tget t.ks 0).ks.length d0) ∧ W.cell? ⟨b, o + 8, none⟩ = some (.int .u8 (tget t.ks 1).h.k) ∧ W.cell? ⟨b, o + 8 + 1, none⟩ = some (.int .u8 (tget t.ks 1).h.op) ∧ W.cell? ⟨b, o + 8 + 2, none⟩ = some (.int .i64 (tget t.ks 1).h.pl) ∧ W.cell? ⟨b, o + 8 + 3, none⟩ = some (.int .i64 (tget t.ks 1).h.n) ∧ W.cell? ⟨b, o + 8 + 4, none⟩ = some (.string (tget t.ks 1).h.name) ∧ W.cell? ⟨b, o + 8 + 5, none⟩ = some (.string (tget t.ks 1).h.arg) ∧ W.cell? ⟨b, o + 8 + 6, none⟩ = some (.string (tget t.ks 1).h.exn) ∧ W.cell? ⟨b, o + 8 + 7, none⟩ = some (.slice q1 (tget t.ks 1).ks.length d1) ∧ Below w.heap.size w W) := by
    rintro V W ⟨s0, s1, s2, s3, s4, s5, s6, s7, s8, s9, s10, s11, s12, s13, s14, s15, s16⟩ hb
    have R := Term.Reads.of_below hb
    exact ⟨R _ _ s0, R _ _ s1, R _ _ s2, R _ _ s3, R _ _ s4, R _ _ s5, R _ _ s6, R _ _ s7, R _ _ s8, R _ _ s9, R _ _ s10, R _ _ s11, R _ _ s12, R _ _ s13, R _ _ s14, R _ _ s15, Term.below_then s16 hb s16.size⟩
  have hq0 := fun V (h : V.cell? ⟨b, o, none⟩ = some (.int .u8 (tget t.ks 0).h.k) ∧ V.cell? ⟨b, o + 1, none⟩ = some (.int .u8 (tget t.ks 0).h.op) ∧ V.cell? ⟨b, o + 2, none⟩ = some (.int .i64 (tget t.ks 0).h.pl) ∧ V.cell? ⟨b, o + 3, none⟩ = some (.int .i64 (tget t.ks 0).h.n) ∧ V.cell? ⟨b, o + 4, none⟩ = some (.string (tget t.ks 0).h.name) ∧ V.cell? ⟨b, o + 5, none⟩ = some (.string (tget t.ks 0).h.arg) ∧ V.cell? ⟨b, o + 6, none⟩ = some (.string (tget t.ks 0).h.exn) ∧ V.cell? ⟨b, o + 7, none⟩ = some (.slice q0 (tget t.ks 0).ks.length d0) ∧ V.cell? ⟨b, o + 8, none⟩ = some (.int .u8 (tget t.ks 1).h.k) ∧ V.cell? ⟨b, o + 8 + 1, none⟩ = some (.int .u8 (tget t.ks 1).h.op) ∧ V.cell? ⟨b, o + 8 + 2, none⟩ = some (.int .i64 (tget t.ks 1).h.pl) ∧ V.cell? ⟨b, o + 8 + 3, none⟩ = some (.int .i64 (tget t.ks 1).h.n) ∧ V.cell? ⟨b, o + 8 + 4, none⟩ = some (.string (tget t.ks 1).h.name) ∧ V.cell? ⟨b, o + 8 + 5, none⟩ = some (.string (tget t.ks 1).h.arg) ∧ V.cell? ⟨b, o + 8 + 6, none⟩ = some (.string (tget t.ks 1).h.exn) ∧ V.cell? ⟨b, o + 8 + 7, none⟩ = some (.slice q1 (tget t.ks 1).ks.length d1) ∧ Below w.heap.size w V) => (hk0 V (hb.trans (h.2.2.2.2.2.2.2.2.2.2.2.2.2.2.2.2.mono hb.size))).mono fun e w' (hh : e = .returned (.string (jb (asW 0 (kdT (tget t.ks 0))))) ∧ Below V.heap.size V w') => (⟨hh.1, hkeep V w' h hh.2⟩ : e = .returned (.string (jb (asW 0 (kdT (tget t.ks 0))))) ∧ w'.cell? ⟨b, o, none⟩ = some (.int .u8 (tget t.ks 0).h.k) ∧ w'.cell? ⟨b, o + 1, none⟩ = some (.int .u8 (tget t.ks 0).h.op) ∧ w'.cell? ⟨b, o + 2, none⟩ = some (.int .i64 (tget t.ks 0).h.pl) ∧ w'.cell? ⟨b, o + 3, none⟩ = some (.int .i64 (tget t.ks 0).h.n) ∧ w'.cell? ⟨b, o + 4, none⟩ = some (.string (tget t.ks 0).h.name) ∧ w'.cell? ⟨b, o + 5, none⟩ = some (.string (tget t.ks 0).h.arg) ∧ w'.cell? ⟨b, o + 6, none⟩ = some (.string (tget t.ks 0).h.exn) ∧ w'.cell? ⟨b, o + 7, none⟩ = some (.slice q0 (tget t.ks 0).ks.length d0) ∧ w'.cell? ⟨b, o + 8, none⟩ = some (.int .u8 (tget t.ks 1).h.k) ∧ w'.cell? ⟨b, o + 8 + 1, none⟩ = some (.int .u8 (tget t.ks 1).h.op) ∧ w'.cell? ⟨b, o + 8 + 2, none⟩ = some (.int .i64 (tget t.ks 1).h.pl) ∧ w'.cell? ⟨b, o + 8 + 3, none⟩ = some (.int .i64 (tget t.ks 1).h.n) ∧ w'.cell? ⟨b, o + 8 + 4, none⟩ = some (.string (tget t.ks 1).h.name) ∧ w'.cell? ⟨b, o + 8 + 5, none⟩ = some (.string (tget t.ks 1).h.arg) ∧ w'.cell? ⟨b, o + 8 + 6, none⟩ = some (.string (tget t.ks 1).h.exn) ∧ w'.cell? ⟨b, o + 8 + 7, none⟩ = some (.slice q1 (tget t.ks 1).ks.length d1) ∧ Below w.heap.size w w')
  have hq1 := fun V (h : V.cell? ⟨b, o, none⟩ = some (.int .u8 (tget t.ks 0).h.k) ∧ V.cell? ⟨b, o + 1, none⟩ = some (.int .u8 (tget t.ks 0).h.op) ∧ V.cell? ⟨b, o + 2, none⟩ = some (.int .i64 (tget t.ks 0).h.pl) ∧ V.cell? ⟨b, o + 3, none⟩ = some (.int .i64 (tget t.ks 0).h.n) ∧ V.cell? ⟨b, o + 4, none⟩ = some (.string (tget t.ks 0).h.name) ∧ V.cell? ⟨b, o + 5, none⟩ = some (.string (tget t.ks 0).h.arg) ∧ V.cell? ⟨b, o + 6, none⟩ = some (.string (tget t.ks 0).h.exn) ∧ V.cell? ⟨b, o + 7, none⟩ = some (.slice q0 (tget t.ks 0).ks.length d0) ∧ V.cell? ⟨b, o + 8, none⟩ = some (.int .u8 (tget t.ks 1).h.k) ∧ V.cell? ⟨b, o + 8 + 1, none⟩ = some (.int .u8 (tget t.ks 1).h.op) ∧ V.cell? ⟨b, o + 8 + 2, none⟩ = some (.int .i64 (tget t.ks 1).h.pl) ∧ V.cell? ⟨b, o + 8 + 3, none⟩ = some (.int .i64 (tget t.ks 1).h.n) ∧ V.cell? ⟨b, o + 8 + 4, none⟩ = some (.string (tget t.ks 1).h.name) ∧ V.cell? ⟨b, o + 8 + 5, none⟩ = some (.string (tget t.ks 1).h.arg) ∧ V.cell? ⟨b, o + 8 + 6, none⟩ = some (.string (tget t.ks 1).h.exn) ∧ V.cell? ⟨b, o + 8 + 7, none⟩ = some (.slice q1 (tget t.ks 1).ks.length d1) ∧ Below w.heap.size w V) => (hk1 V (hb.trans (h.2.2.2.2.2.2.2.2.2.2.2.2.2.2.2.2.mono hb.size))).mono fun e w' (hh : e = .returned (.string (jb (asW 0 (kdT (tget t.ks 1))))) ∧ Below V.heap.size V w') => (⟨hh.1, hkeep V w' h hh.2⟩ : e = .returned (.string (jb (asW 0 (kdT (tget t.ks 1))))) ∧ w'.cell? ⟨b, o, none⟩ = some (.int .u8 (tget t.ks 0).h.k) ∧ w'.cell? ⟨b, o + 1, none⟩ = some (.int .u8 (tget t.ks 0).h.op) ∧ w'.cell? ⟨b, o + 2, none⟩ = some (.int .i64 (tget t.ks 0).h.pl) ∧ w'.cell? ⟨b, o + 3, none⟩ = some (.int .i64 (tget t.ks 0).h.n) ∧ w'.cell? ⟨b, o + 4, none⟩ = some (.string (tget t.ks 0).h.name) ∧ w'.cell? ⟨b, o + 5, none⟩ = some (.string (tget t.ks 0).h.arg) ∧ w'.cell? ⟨b, o + 6, none⟩ = some (.string (tget t.ks 0).h.exn) ∧ w'.cell? ⟨b, o + 7, none⟩ = some (.slice q0 (tget t.ks 0).ks.length d0) ∧ w'.cell? ⟨b, o + 8, none⟩ = some (.int .u8 (tget t.ks 1).h.k) ∧ w'.cell? ⟨b, o + 8 + 1, none⟩ = some (.int .u8 (tget t.ks 1).h.op) ∧ w'.cell? ⟨b, o + 8 + 2, none⟩ = some (.int .i64 (tget t.ks 1).h.pl) ∧ w'.cell? ⟨b, o + 8 + 3, none⟩ = some (.int .i64 (tget t.ks 1).h.n) ∧ w'.cell? ⟨b, o + 8 + 4, none⟩ = some (.string (tget t.ks 1).h.name) ∧ w'.cell? ⟨b, o + 8 + 5, none⟩ = some (.string (tget t.ks 1).h.arg) ∧ w'.cell? ⟨b, o + 8 + 6, none⟩ = some (.string (tget t.ks 1).h.exn) ∧ w'.cell? ⟨b, o + 8 + 7, none⟩ = some (.slice q1 (tget t.ks 1).ks.length d1) ∧ Below w.heap.size w w')
  have hbw := hbox (.cells #[.int .u8 3, .int .u8 op, .int .i64 pl, .int .i64 nn, .string nm, .string ar, .string ex, .slice (some ⟨b, o, none⟩) 2 c] 29) (.cells #[.string ⟨#[43]⟩, .string ⟨#[45]⟩, .string ⟨#[42]⟩, .string ⟨#[60]⟩, .string ⟨#[61]⟩] 9)
  have hS0 : ((w.alloc (.cells #[.int .u8 3, .int .u8 op, .int .i64 pl, .int .i64 nn, .string nm, .string ar, .string ex, .slice (some ⟨b, o, none⟩) 2 c] 29)).alloc (.cells #[.string ⟨#[43]⟩, .string ⟨#[45]⟩, .string ⟨#[42]⟩, .string ⟨#[60]⟩, .string ⟨#[61]⟩] 9)).drew.cell? ⟨b, o, none⟩ = some (.int .u8 (tget t.ks 0).h.k) ∧ ((w.alloc (.cells #[.int .u8 3, .int .u8 op, .int .i64 pl, .int .i64 nn, .string nm, .string ar, .string ex, .slice (some ⟨b, o, none⟩) 2 c] 29)).alloc (.cells #[.string ⟨#[43]⟩, .string ⟨#[45]⟩, .string ⟨#[42]⟩, .string ⟨#[60]⟩, .string ⟨#[61]⟩] 9)).drew.cell? ⟨b, o + 1, none⟩ = some (.int .u8 (tget t.ks 0).h.op) ∧ ((w.alloc (.cells #[.int .u8 3, .int .u8 op, .int .i64 pl, .int .i64 nn, .string nm, .string ar, .string ex, .slice (some ⟨b, o, none⟩) 2 c] 29)).alloc (.cells #[.string ⟨#[43]⟩, .string ⟨#[45]⟩, .string ⟨#[42]⟩, .string ⟨#[60]⟩, .string ⟨#[61]⟩] 9)).drew.cell? ⟨b, o + 2, none⟩ = some (.int .i64 (tget t.ks 0).h.pl) ∧ ((w.alloc (.cells #[.int .u8 3, .int .u8 op, .int .i64 pl, .int .i64 nn, .string nm, .string ar, .string ex, .slice (some ⟨b, o, none⟩) 2 c] 29)).alloc (.cells #[.string ⟨#[43]⟩, .string ⟨#[45]⟩, .string ⟨#[42]⟩, .string ⟨#[60]⟩, .string ⟨#[61]⟩] 9)).drew.cell? ⟨b, o + 3, none⟩ = some (.int .i64 (tget t.ks 0).h.n) ∧ ((w.alloc (.cells #[.int .u8 3, .int .u8 op, .int .i64 pl, .int .i64 nn, .string nm, .string ar, .string ex, .slice (some ⟨b, o, none⟩) 2 c] 29)).alloc (.cells #[.string ⟨#[43]⟩, .string ⟨#[45]⟩, .string ⟨#[42]⟩, .string ⟨#[60]⟩, .string ⟨#[61]⟩] 9)).drew.cell? ⟨b, o + 4, none⟩ = some (.string (tget t.ks 0).h.name) ∧ ((w.alloc (.cells #[.int .u8 3, .int .u8 op, .int .i64 pl, .int .i64 nn, .string nm, .string ar, .string ex, .slice (some ⟨b, o, none⟩) 2 c] 29)).alloc (.cells #[.string ⟨#[43]⟩, .string ⟨#[45]⟩, .string ⟨#[42]⟩, .string ⟨#[60]⟩, .string ⟨#[61]⟩] 9)).drew.cell? ⟨b, o + 5, none⟩ = some (.string (tget t.ks 0).h.arg) ∧ ((w.alloc (.cells #[.int .u8 3, .int .u8 op, .int .i64 pl, .int .i64 nn, .string nm, .string ar, .string ex, .slice (some ⟨b, o, none⟩) 2 c] 29)).alloc (.cells #[.string ⟨#[43]⟩, .string ⟨#[45]⟩, .string ⟨#[42]⟩, .string ⟨#[60]⟩, .string ⟨#[61]⟩] 9)).drew.cell? ⟨b, o + 6, none⟩ = some (.string (tget t.ks 0).h.exn) ∧ ((w.alloc (.cells #[.int .u8 3, .int .u8 op, .int .i64 pl, .int .i64 nn, .string nm, .string ar, .string ex, .slice (some ⟨b, o, none⟩) 2 c] 29)).alloc (.cells #[.string ⟨#[43]⟩, .string ⟨#[45]⟩, .string ⟨#[42]⟩, .string ⟨#[60]⟩, .string ⟨#[61]⟩] 9)).drew.cell? ⟨b, o + 7, none⟩ = some (.slice q0 (tget t.ks 0).ks.length d0) ∧ ((w.alloc (.cells #[.int .u8 3, .int .u8 op, .int .i64 pl, .int .i64 nn, .string nm, .string ar, .string ex, .slice (some ⟨b, o, none⟩) 2 c] 29)).alloc (.cells #[.string ⟨#[43]⟩, .string ⟨#[45]⟩, .string ⟨#[42]⟩, .string ⟨#[60]⟩, .string ⟨#[61]⟩] 9)).drew.cell? ⟨b, o + 8, none⟩ = some (.int .u8 (tget t.ks 1).h.k) ∧ ((w.alloc (.cells #[.int .u8 3, .int .u8 op, .int .i64 pl, .int .i64 nn, .string nm, .string ar, .string ex, .slice (some ⟨b, o, none⟩) 2 c] 29)).alloc (.cells #[.string ⟨#[43]⟩, .string ⟨#[45]⟩, .string ⟨#[42]⟩, .string ⟨#[60]⟩, .string ⟨#[61]⟩] 9)).drew.cell? ⟨b, o + 8 + 1, none⟩ = some (.int .u8 (tget t.ks 1).h.op) ∧ ((w.alloc (.cells #[.int .u8 3, .int .u8 op, .int .i64 pl, .int .i64 nn, .string nm, .string ar, .string ex, .slice (some ⟨b, o, none⟩) 2 c] 29)).alloc (.cells #[.string ⟨#[43]⟩, .string ⟨#[45]⟩, .string ⟨#[42]⟩, .string ⟨#[60]⟩, .string ⟨#[61]⟩] 9)).drew.cell? ⟨b, o + 8 + 2, none⟩ = some (.int .i64 (tget t.ks 1).h.pl) ∧ ((w.alloc (.cells #[.int .u8 3, .int .u8 op, .int .i64 pl, .int .i64 nn, .string nm, .string ar, .string ex, .slice (some ⟨b, o, none⟩) 2 c] 29)).alloc (.cells #[.string ⟨#[43]⟩, .string ⟨#[45]⟩, .string ⟨#[42]⟩, .string ⟨#[60]⟩, .string ⟨#[61]⟩] 9)).drew.cell? ⟨b, o + 8 + 3, none⟩ = some (.int .i64 (tget t.ks 1).h.n) ∧ ((w.alloc (.cells #[.int .u8 3, .int .u8 op, .int .i64 pl, .int .i64 nn, .string nm, .string ar, .string ex, .slice (some ⟨b, o, none⟩) 2 c] 29)).alloc (.cells #[.string ⟨#[43]⟩, .string ⟨#[45]⟩, .string ⟨#[42]⟩, .string ⟨#[60]⟩, .string ⟨#[61]⟩] 9)).drew.cell? ⟨b, o + 8 + 4, none⟩ = some (.string (tget t.ks 1).h.name) ∧ ((w.alloc (.cells #[.int .u8 3, .int .u8 op, .int .i64 pl, .int .i64 nn, .string nm, .string ar, .string ex, .slice (some ⟨b, o, none⟩) 2 c] 29)).alloc (.cells #[.string ⟨#[43]⟩, .string ⟨#[45]⟩, .string ⟨#[42]⟩, .string ⟨#[60]⟩, .string ⟨#[61]⟩] 9)).drew.cell? ⟨b, o + 8 + 5, none⟩ = some (.string (tget t.ks 1).h.arg) ∧ ((w.alloc (.cells #[.int .u8 3, .int .u8 op, .int .i64 pl, .int .i64 nn, .string nm, .string ar, .string ex, .slice (some ⟨b, o, none⟩) 2 c] 29)).alloc (.cells #[.string ⟨#[43]⟩, .string ⟨#[45]⟩, .string ⟨#[42]⟩, .string ⟨#[60]⟩, .string ⟨#[61]⟩] 9)).drew.cell? ⟨b, o + 8 + 6, none⟩ = some (.string (tget t.ks 1).h.exn) ∧ ((w.alloc (.cells #[.int .u8 3, .int .u8 op, .int .i64 pl, .int .i64 nn, .string nm, .string ar, .string ex, .slice (some ⟨b, o, none⟩) 2 c] 29)).alloc (.cells #[.string ⟨#[43]⟩, .string ⟨#[45]⟩, .string ⟨#[42]⟩, .string ⟨#[60]⟩, .string ⟨#[61]⟩] 9)).drew.cell? ⟨b, o + 8 + 7, none⟩ = some (.slice q1 (tget t.ks 1).ks.length d1) ∧ Below w.heap.size w ((w.alloc (.cells #[.int .u8 3, .int .u8 op, .int .i64 pl, .int .i64 nn, .string nm, .string ar, .string ex, .slice (some ⟨b, o, none⟩) 2 c] 29)).alloc (.cells #[.string ⟨#[43]⟩, .string ⟨#[45]⟩, .string ⟨#[42]⟩, .string ⟨#[60]⟩, .string ⟨#[61]⟩] 9)).drew := by
    have hbz : Below w0.heap.size w0 ((w.alloc (.cells #[.int .u8 3, .int .u8 op, .int .i64 pl, .int .i64 nn, .string nm, .string ar, .string ex, .slice (some ⟨b, o, none⟩) 2 c] 29)).alloc (.cells #[.string ⟨#[43]⟩, .string ⟨#[45]⟩, .string ⟨#[42]⟩, .string ⟨#[60]⟩, .string ⟨#[61]⟩] 9)).drew := (hb.trans (hbw.mono hb.size)).drew
    obtain ⟨x0_0, x0_1, x0_2, x0_3, x0_4, x0_5, x0_6, x0_7, _⟩ := hc0 _ hbz
    obtain ⟨x1_0, x1_1, x1_2, x1_3, x1_4, x1_5, x1_6, x1_7, _⟩ := hc1 _ hbz
    exact ⟨x0_0, x0_1, x0_2, x0_3, x0_4, x0_5, x0_6, x0_7, x1_0, x1_1, x1_2, x1_3, x1_4, x1_5, x1_6, x1_7, hbw.drew⟩
  have HF := Lib.hid hfull; have HA0 := Lib.hid ha0; have HA1 := Lib.hid ha1; have HA2 := Lib.hid ha2; have HA3 := Lib.hid ha3; have HS0 := Lib.hid hS0; have HQ0 := Lib.hid hq0; have HQ1 := Lib.hid hq1
  clear hbox hlen hkk hk hcap hsz ew hfull hT hI hb hok hm hw hI0 hc0 ok0 ne0 na0 hI1 hc1 ok1 ne1 na1 ha0 ha1 ha2 ha3 hk0 hk1 hkeep hbw hS0 hq0 hq1
  have ha0 := HA0.out
  have ha1 := HA1.out
  have ha2 := HA2.out
  have ha3 := HA3.out
  clear HA0 HA1 HA2 HA3
  generalize jb (asW 0 (kdT (tget t.ks 0))) = J0 at *
  generalize jb (asW 0 (kdT (tget t.ks 1))) = J1 at *
  generalize hX0 : (⟨#[40, 32]⟩ ++ J0 : ByteArray) = X0 at *
  generalize hX1 : (X0 ++ ⟨#[32, 44, 32]⟩ : ByteArray) = X1 at *
  generalize hX2 : (X1 ++ J1 : ByteArray) = X2 at *
  generalize hX3 : (X2 ++ ⟨#[32, 41]⟩ : ByteArray) = X3 at *
  clear hX0 hX1 hX2 hX3
  go_enter Tryz.func40, Tryz.ntmps40
  go_wp2_with (fail)
  go_region_held3 (fun V => (V.cell? ⟨b, o, none⟩ = some (.int .u8 (tget t.ks 0).h.k) ∧ V.cell? ⟨b, o + 1, none⟩ = some (.int .u8 (tget t.ks 0).h.op) ∧ V.cell? ⟨b, o + 2, none⟩ = some (.int .i64 (tget t.ks 0).h.pl) ∧ V.cell? ⟨b, o + 3, none⟩ = some (.int .i64 (tget t.ks 0).h.n) ∧ V.cell? ⟨b, o + 4, none⟩ = some (.string (tget t.ks 0).h.name) ∧ V.cell? ⟨b, o + 5, none⟩ = some (.string (tget t.ks 0).h.arg) ∧ V.cell? ⟨b, o + 6, none⟩ = some (.string (tget t.ks 0).h.exn) ∧ V.cell? ⟨b, o + 7, none⟩ = some (.slice q0 (tget t.ks 0).ks.length d0) ∧ V.cell? ⟨b, o + 8, none⟩ = some (.int .u8 (tget t.ks 1).h.k) ∧ V.cell? ⟨b, o + 8 + 1, none⟩ = some (.int .u8 (tget t.ks 1).h.op) ∧ V.cell? ⟨b, o + 8 + 2, none⟩ = some (.int .i64 (tget t.ks 1).h.pl) ∧ V.cell? ⟨b, o + 8 + 3, none⟩ = some (.int .i64 (tget t.ks 1).h.n) ∧ V.cell? ⟨b, o + 8 + 4, none⟩ = some (.string (tget t.ks 1).h.name) ∧ V.cell? ⟨b, o + 8 + 5, none⟩ = some (.string (tget t.ks 1).h.arg) ∧ V.cell? ⟨b, o + 8 + 6, none⟩ = some (.string (tget t.ks 1).h.exn) ∧ V.cell? ⟨b, o + 8 + 7, none⟩ = some (.slice q1 (tget t.ks 1).ks.length d1) ∧ Below w.heap.size w V)) (first | exact HS0.out | assumption) (first
    | (go_at_call 77; with_reducible refine (HQ0.out _ ?_).mono ?_; (first | exact HS0.out | assumption); rintro e w' ⟨rfl, hS'⟩)
    | (go_at_call 77; with_reducible refine (HQ1.out _ ?_).mono ?_; (first | exact HS0.out | assumption); rintro e w' ⟨rfl, hS'⟩))
  all_goals try go_wp2_with (fail)
  all_goals go_ret
  all_goals exact ⟨(by rw [← HF.out]; rfl), hS'.2.2.2.2.2.2.2.2.2.2.2.2.2.2.2.2⟩
end Show
end Go.Proofs.YtkcadkjpneoobaaGreatDoor
namespace Go.Proofs.YtkcadkjpneoobaaGreatDoor
open Go.RowKit
set_option linter.unusedVariables false
set_option linter.unusedSimpArgs false
namespace Show
open Parse (wLet wLetrec wIn wFn wIf wThen wElse wRaise wTry wWith wRef wFst wSnd wExn wIs wArrow wPut wLess wAdd wSub wMul wGet wOpen wShut wComma wSemi)
open Term (Tm Hd TmIs Kids tget wt wts okT okK mayT)
open Words (StrsAt sel nameB exnB)
open Token (jb)
set_option maxRecDepth 100000 in
set_option maxHeartbeats 12800000 in
theorem ref_set (w0 : World) (m : Nat) (hT : TextIs w0 m) (t : Tm) (op pl nn : Int) (nm ar ex : ByteArray) (p : Option Addr) (l c : Nat) (w : World)
    (hm : wt t ≤ m + 1) (hw : wt t ≤ 4000) (hok : okT t = true) (hI : TmIs w0 ⟨8, op, pl, nn, nm, ar, ex⟩ p l c t) (hb : Below w0.heap.size w0 w) :
    Calls Tryz.prog 40 #[.agg #[.int .u8 8, .int .u8 op, .int .i64 pl, .int .i64 nn, .string nm, .string ar, .string ex, .slice p l c]] w fun e w' => e = .returned (.string (jb (wordsT t))) ∧ Below w.heap.size w w' := by
  have hbox : ∀ O O' : Obj, Below w.heap.size w ((w.alloc O).alloc O') := fun O O' => ((Below.refl _ _).alloc (Nat.le_refl _) O).alloc (by simp) O'
  have hlen := hI.len
  have hkk := (ok_kids hok).1
  rw [hI.head] at hkk
  obtain rfl : l = 2 := by have e : Term.kidsN 8 = 2 := by decide
                           have hkk' : Term.kidsN 8 = (t.ks.length : Int) := hkk
                           omega
  obtain ⟨b, o, rfl, hk⟩ := kids_at hI (by omega)
  obtain ⟨q0, d0, hI0, hc0⟩ := hk 0 (by omega)
  rw [show o + 0 * 8 = o from by omega] at hc0
  have ok0 := kid_ok (i := 0) (by omega) hok
  have ne0 := words_nil ok0
  obtain ⟨q1, d1, hI1, hc1⟩ := hk 1 (by omega)
  rw [show o + 1 * 8 = o + 8 from by omega] at hc1
  have ok1 := kid_ok (i := 1) (by omega) hok
  have ne1 := words_nil ok1
  have hcap := hI.cap
  have hsz := text_small hok hw
  have ew : wordsT t = asW 2 (kdT (tget t.ks 0)) ++ wPut :: asW 2 (kdT (tget t.ks 1)) := by
    rw [wordsT_eq, hI.head]
    unfold comb signW twoW
    simp [kd_get (show 0 < t.ks.length by omega), kd_get (show 1 < t.ks.length by omega), kdT]
  have na0 := fun p => asW_nil ok0 p
  have na1 := fun p => asW_nil ok1 p
  have hfull : ((jb (asW 2 (kdT (tget t.ks 0))) ++ ⟨#[32, 58, 61, 32]⟩) ++ jb (asW 2 (kdT (tget t.ks 1)))) = jb (wordsT t) := by
    apply bl_inj
    rw [ew]
    simp only [kdT] at *
    simp [bl_append, bl_app, bl_cons, bl_one, List.append_assoc, ne0, na0, ne1, na1]
    try simp [bl, wPut]
  rw [← hfull] at hsz
  simp only [ByteArray.size_append] at hsz
  have ha0 : ∀ W, (Op.stringOp .add (jb (asW 2 (kdT (tget t.ks 0)))) (⟨#[32, 58, 61, 32]⟩)).run Tryz.prog W = .ok (.string (jb (asW 2 (kdT (tget t.ks 0))) ++ ⟨#[32, 58, 61, 32]⟩)) W := fun W => add_run _ _ _ rfl (by simp only [ByteArray.size_append]; omega) W
  have ha1 : ∀ W, (Op.stringOp .add ((jb (asW 2 (kdT (tget t.ks 0))) ++ ⟨#[32, 58, 61, 32]⟩)) (jb (asW 2 (kdT (tget t.ks 1))))).run Tryz.prog W = .ok (.string ((jb (asW 2 (kdT (tget t.ks 0))) ++ ⟨#[32, 58, 61, 32]⟩) ++ jb (asW 2 (kdT (tget t.ks 1))))) W := fun W => add_run _ _ _ rfl (by simp only [ByteArray.size_append]; omega) W
  have hk0 := fun W hb => refAs_walk w0 m hT (tget t.ks 0) _ q0 _ d0 2 W (kid_wt (by omega) hm) (by have := kid_wt (i := 0) (m := 3999) (t := t) (by omega) (by omega); omega) ok0 hI0 hb
  have hk1 := fun W hb => refAs_walk w0 m hT (tget t.ks 1) _ q1 _ d1 2 W (kid_wt (by omega) hm) (by have := kid_wt (i := 1) (m := 3999) (t := t) (by omega) (by omega); omega) ok1 hI1 hb
  have hcl : c ≤ 9223372036854775807 := by have := hcap.2; unfold maxLen at this; exact this
  have hcq := hcap.1
  have hkeep : ∀ V W : World, (V.cell? ⟨b, o, none⟩ = some (.int .u8 (tget t.ks 0).h.k) ∧ V.cell? ⟨b, o + 1, none⟩ = some (.int .u8 (tget t.ks 0).h.op) ∧ V.cell? ⟨b, o + 2, none⟩ = some (.int .i64 (tget t.ks 0).h.pl) ∧ V.cell? ⟨b, o + 3, none⟩ = some (.int .i64 (tget t.ks 0).h.n) ∧ V.cell? ⟨b, o + 4, none⟩ = some (.string (tget t.ks 0).h.name) ∧ V.cell? ⟨b, o + 5, none⟩ = some (.string (tget t.ks 0).h.arg) ∧ V.cell? ⟨b, o + 6, none⟩ = some (.string (tget t.ks 0).h.exn) ∧ V.cell? ⟨b, o + 7, none⟩ = some (.slice q0 (tget t.ks 0).ks.length d0) ∧ V.cell? ⟨b, o + 8, none⟩ = some (.int .u8 (tget t.ks 1).h.k) ∧ V.cell? ⟨b, o + 8 + 1, none⟩ = some (.int .u8 (tget t.ks 1).h.op) ∧ V.cell? ⟨b, o + 8 + 2, none⟩ = some (.int .i64 (tget t.ks 1).h.pl) ∧ V.cell? ⟨b, o + 8 + 3, none⟩ = some (.int .i64 (tget t.ks 1).h.n) ∧ V.cell? ⟨b, o + 8 + 4, none⟩ = some (.string (tget t.ks 1).h.name) ∧ V.cell? ⟨b, o + 8 + 5, none⟩ = some (.string (tget t.ks 1).h.arg) ∧ V.cell? ⟨b, o + 8 + 6, none⟩ = some (.string (tget t.ks 1).h.exn) ∧ V.cell? ⟨b, o + 8 + 7, none⟩ = some (.slice q1 (tget t.ks 1).ks.length d1) ∧ Below w.heap.size w V) → Below V.heap.size V W → (W.cell? ⟨b, o, none⟩ = some (.int .u8 (tget t.ks 0).h.k) ∧ W.cell? ⟨b, o + 1, none⟩ = some (.int .u8 (tget t.ks 0).h.op) ∧ W.cell? ⟨b, o + 2, none⟩ = some (.int .i64 (tget t.ks 0).h.pl) ∧ W.cell? ⟨b, o + 3, none⟩ = some (.int .i64 (tget t.ks 0).h.n) ∧ W.cell? ⟨b, o + 4, none⟩ = some (.string (tget t.ks 0).h.name) ∧ W.cell? ⟨b, o + 5, none⟩ = some (.string (tget t.ks 0).h.arg) ∧ W.cell? ⟨b, o + 6, none⟩ = some (.string (tget t.ks 0).h.exn) ∧ W.cell? ⟨b, o + 7, none⟩ = some (.slice q0 (tget t.ks 0).ks.length d0) ∧ W.cell? ⟨b, o + 8, none⟩ = some (.int .u8 (tget t.ks 1).h.k) ∧ W.cell? ⟨b, o + 8 + 1, none⟩ = some (.int .u8 (tget t.ks 1).h.op) ∧ W.cell? ⟨b, o + 8 + 2, none⟩ = some (.int .i64 (tget t.ks 1).h.pl) ∧ W.cell? ⟨b, o + 8 + 3, none⟩ = some (.int .i64 (tget t.ks 1).h.n) ∧ W.cell? ⟨b, o + 8 + 4, none⟩ = some (.string (tget t.ks 1).h.name) ∧ W.cell? ⟨b, o + 8 + 5, none⟩ = some (.string (tget t.ks 1).h.arg) ∧ W.cell? ⟨b, o + 8 + 6, none⟩ = some (.string (tget t.ks 1).h.exn) ∧ W.cell? ⟨b, o + 8 + 7, none⟩ = some (.slice q1 (tget t.ks 1).ks.length d1) ∧ Below w.heap.size w W) := by
    rintro V W ⟨s0, s1, s2, s3, s4, s5, s6, s7, s8, s9, s10, s11, s12, s13, s14, s15, s16⟩ hb
    have R := Term.Reads.of_below hb
    exact ⟨R _ _ s0, R _ _ s1, R _ _ s2, R _ _ s3, R _ _ s4, R _ _ s5, R _ _ s6, R _ _ s7, R _ _ s8, R _ _ s9, R _ _ s10, R _ _ s11, R _ _ s12, R _ _ s13, R _ _ s14, R _ _ s15, Term.below_then s16 hb s16.size⟩
  have hq0 := fun V (h : V.cell? ⟨b, o, none⟩ = some (.int .u8 (tget t.ks 0).h.k) ∧ V.cell? ⟨b, o + 1, none⟩ = some (.int .u8 (tget t.ks 0).h.op) ∧ V.cell? ⟨b, o + 2, none⟩ = some (.int .i64 (tget t.ks 0).h.pl) ∧ V.cell? ⟨b, o + 3, none⟩ = some (.int .i64 (tget t.ks 0).h.n) ∧ V.cell? ⟨b, o + 4, none⟩ = some (.string (tget t.ks 0).h.name) ∧ V.cell? ⟨b, o + 5, none⟩ = some (.string (tget t.ks 0).h.arg) ∧ V.cell? ⟨b, o + 6, none⟩ = some (.string (tget t.ks 0).h.exn) ∧ V.cell? ⟨b, o + 7, none⟩ = some (.slice q0 (tget t.ks 0).ks.length d0) ∧ V.cell? ⟨b, o + 8, none⟩ = some (.int .u8 (tget t.ks 1).h.k) ∧ V.cell? ⟨b, o + 8 + 1, none⟩ = some (.int .u8 (tget t.ks 1).h.op) ∧ V.cell? ⟨b, o + 8 + 2, none⟩ = some (.int .i64 (tget t.ks 1).h.pl) ∧ V.cell? ⟨b, o + 8 + 3, none⟩ = some (.int .i64 (tget t.ks 1).h.n) ∧ V.cell? ⟨b, o + 8 + 4, none⟩ = some (.string (tget t.ks 1).h.name) ∧ V.cell? ⟨b, o + 8 + 5, none⟩ = some (.string (tget t.ks 1).h.arg) ∧ V.cell? ⟨b, o + 8 + 6, none⟩ = some (.string (tget t.ks 1).h.exn) ∧ V.cell? ⟨b, o + 8 + 7, none⟩ = some (.slice q1 (tget t.ks 1).ks.length d1) ∧ Below w.heap.size w V) => (hk0 V (hb.trans (h.2.2.2.2.2.2.2.2.2.2.2.2.2.2.2.2.mono hb.size))).mono fun e w' (hh : e = .returned (.string (jb (asW 2 (kdT (tget t.ks 0))))) ∧ Below V.heap.size V w') => (⟨hh.1, hkeep V w' h hh.2⟩ : e = .returned (.string (jb (asW 2 (kdT (tget t.ks 0))))) ∧ w'.cell? ⟨b, o, none⟩ = some (.int .u8 (tget t.ks 0).h.k) ∧ w'.cell? ⟨b, o + 1, none⟩ = some (.int .u8 (tget t.ks 0).h.op) ∧ w'.cell? ⟨b, o + 2, none⟩ = some (.int .i64 (tget t.ks 0).h.pl) ∧ w'.cell? ⟨b, o + 3, none⟩ = some (.int .i64 (tget t.ks 0).h.n) ∧ w'.cell? ⟨b, o + 4, none⟩ = some (.string (tget t.ks 0).h.name) ∧ w'.cell? ⟨b, o + 5, none⟩ = some (.string (tget t.ks 0).h.arg) ∧ w'.cell? ⟨b, o + 6, none⟩ = some (.string (tget t.ks 0).h.exn) ∧ w'.cell? ⟨b, o + 7, none⟩ = some (.slice q0 (tget t.ks 0).ks.length d0) ∧ w'.cell? ⟨b, o + 8, none⟩ = some (.int .u8 (tget t.ks 1).h.k) ∧ w'.cell? ⟨b, o + 8 + 1, none⟩ = some (.int .u8 (tget t.ks 1).h.op) ∧ w'.cell? ⟨b, o + 8 + 2, none⟩ = some (.int .i64 (tget t.ks 1).h.pl) ∧ w'.cell? ⟨b, o + 8 + 3, none⟩ = some (.int .i64 (tget t.ks 1).h.n) ∧ w'.cell? ⟨b, o + 8 + 4, none⟩ = some (.string (tget t.ks 1).h.name) ∧ w'.cell? ⟨b, o + 8 + 5, none⟩ = some (.string (tget t.ks 1).h.arg) ∧ w'.cell? ⟨b, o + 8 + 6, none⟩ = some (.string (tget t.ks 1).h.exn) ∧ w'.cell? ⟨b, o + 8 + 7, none⟩ = some (.slice q1 (tget t.ks 1).ks.length d1) ∧ Below w.heap.size w w')
  have hq1 := fun V (h : V.cell? ⟨b, o, none⟩ = some (.int .u8 (tget t.ks 0).h.k) ∧ V.cell? ⟨b, o + 1, none⟩ = some (.int .u8 (tget t.ks 0).h.op) ∧ V.cell? ⟨b, o + 2, none⟩ = some (.int .i64 (tget t.ks 0).h.pl) ∧ V.cell? ⟨b, o + 3, none⟩ = some (.int .i64 (tget t.ks 0).h.n) ∧ V.cell? ⟨b, o + 4, none⟩ = some (.string (tget t.ks 0).h.name) ∧ V.cell? ⟨b, o + 5, none⟩ = some (.string (tget t.ks 0).h.arg) ∧ V.cell? ⟨b, o + 6, none⟩ = some (.string (tget t.ks 0).h.exn) ∧ V.cell? ⟨b, o + 7, none⟩ = some (.slice q0 (tget t.ks 0).ks.length d0) ∧ V.cell? ⟨b, o + 8, none⟩ = some (.int .u8 (tget t.ks 1).h.k) ∧ V.cell? ⟨b, o + 8 + 1, none⟩ = some (.int .u8 (tget t.ks 1).h.op) ∧ V.cell? ⟨b, o + 8 + 2, none⟩ = some (.int .i64 (tget t.ks 1).h.pl) ∧ V.cell? ⟨b, o + 8 + 3, none⟩ = some (.int .i64 (tget t.ks 1).h.n) ∧ V.cell? ⟨b, o + 8 + 4, none⟩ = some (.string (tget t.ks 1).h.name) ∧ V.cell? ⟨b, o + 8 + 5, none⟩ = some (.string (tget t.ks 1).h.arg) ∧ V.cell? ⟨b, o + 8 + 6, none⟩ = some (.string (tget t.ks 1).h.exn) ∧ V.cell? ⟨b, o + 8 + 7, none⟩ = some (.slice q1 (tget t.ks 1).ks.length d1) ∧ Below w.heap.size w V) => (hk1 V (hb.trans (h.2.2.2.2.2.2.2.2.2.2.2.2.2.2.2.2.mono hb.size))).mono fun e w' (hh : e = .returned (.string (jb (asW 2 (kdT (tget t.ks 1))))) ∧ Below V.heap.size V w') => (⟨hh.1, hkeep V w' h hh.2⟩ : e = .returned (.string (jb (asW 2 (kdT (tget t.ks 1))))) ∧ w'.cell? ⟨b, o, none⟩ = some (.int .u8 (tget t.ks 0).h.k) ∧ w'.cell? ⟨b, o + 1, none⟩ = some (.int .u8 (tget t.ks 0).h.op) ∧ w'.cell? ⟨b, o + 2, none⟩ = some (.int .i64 (tget t.ks 0).h.pl) ∧ w'.cell? ⟨b, o + 3, none⟩ = some (.int .i64 (tget t.ks 0).h.n) ∧ w'.cell? ⟨b, o + 4, none⟩ = some (.string (tget t.ks 0).h.name) ∧ w'.cell? ⟨b, o + 5, none⟩ = some (.string (tget t.ks 0).h.arg) ∧ w'.cell? ⟨b, o + 6, none⟩ = some (.string (tget t.ks 0).h.exn) ∧ w'.cell? ⟨b, o + 7, none⟩ = some (.slice q0 (tget t.ks 0).ks.length d0) ∧ w'.cell? ⟨b, o + 8, none⟩ = some (.int .u8 (tget t.ks 1).h.k) ∧ w'.cell? ⟨b, o + 8 + 1, none⟩ = some (.int .u8 (tget t.ks 1).h.op) ∧ w'.cell? ⟨b, o + 8 + 2, none⟩ = some (.int .i64 (tget t.ks 1).h.pl) ∧ w'.cell? ⟨b, o + 8 + 3, none⟩ = some (.int .i64 (tget t.ks 1).h.n) ∧ w'.cell? ⟨b, o + 8 + 4, none⟩ = some (.string (tget t.ks 1).h.name) ∧ w'.cell? ⟨b, o + 8 + 5, none⟩ = some (.string (tget t.ks 1).h.arg) ∧ w'.cell? ⟨b, o + 8 + 6, none⟩ = some (.string (tget t.ks 1).h.exn) ∧ w'.cell? ⟨b, o + 8 + 7, none⟩ = some (.slice q1 (tget t.ks 1).ks.length d1) ∧ Below w.heap.size w w')
  have hbw := hbox (.cells #[.int .u8 8, .int .u8 op, .int .i64 pl, .int .i64 nn, .string nm, .string ar, .string ex, .slice (some ⟨b, o, none⟩) 2 c] 29) (.cells #[.string ⟨#[43]⟩, .string ⟨#[45]⟩, .string ⟨#[42]⟩, .string ⟨#[60]⟩, .string ⟨#[61]⟩] 9)
  have hS0 : ((w.alloc (.cells #[.int .u8 8, .int .u8 op, .int .i64 pl, .int .i64 nn, .string nm, .string ar, .string ex, .slice (some ⟨b, o, none⟩) 2 c] 29)).alloc (.cells #[.string ⟨#[43]⟩, .string ⟨#[45]⟩, .string ⟨#[42]⟩, .string ⟨#[60]⟩, .string ⟨#[61]⟩] 9)).drew.cell? ⟨b, o, none⟩ = some (.int .u8 (tget t.ks 0).h.k) ∧ ((w.alloc (.cells #[.int .u8 8, .int .u8 op, .int .i64 pl, .int .i64 nn, .string nm, .string ar, .string ex, .slice (some ⟨b, o, none⟩) 2 c] 29)).alloc (.cells #[.string ⟨#[43]⟩, .string ⟨#[45]⟩, .string ⟨#[42]⟩, .string ⟨#[60]⟩, .string ⟨#[61]⟩] 9)).drew.cell? ⟨b, o + 1, none⟩ = some (.int .u8 (tget t.ks 0).h.op) ∧ ((w.alloc (.cells #[.int .u8 8, .int .u8 op, .int .i64 pl, .int .i64 nn, .string nm, .string ar, .string ex, .slice (some ⟨b, o, none⟩) 2 c] 29)).alloc (.cells #[.string ⟨#[43]⟩, .string ⟨#[45]⟩, .string ⟨#[42]⟩, .string ⟨#[60]⟩, .string ⟨#[61]⟩] 9)).drew.cell? ⟨b, o + 2, none⟩ = some (.int .i64 (tget t.ks 0).h.pl) ∧ ((w.alloc (.cells #[.int .u8 8, .int .u8 op, .int .i64 pl, .int .i64 nn, .string nm, .string ar, .string ex, .slice (some ⟨b, o, none⟩) 2 c] 29)).alloc (.cells #[.string ⟨#[43]⟩, .string ⟨#[45]⟩, .string ⟨#[42]⟩, .string ⟨#[60]⟩, .string ⟨#[61]⟩] 9)).drew.cell? ⟨b, o + 3, none⟩ = some (.int .i64 (tget t.ks 0).h.n) ∧ ((w.alloc (.cells #[.int .u8 8, .int .u8 op, .int .i64 pl, .int .i64 nn, .string nm, .string ar, .string ex, .slice (some ⟨b, o, none⟩) 2 c] 29)).alloc (.cells #[.string ⟨#[43]⟩, .string ⟨#[45]⟩, .string ⟨#[42]⟩, .string ⟨#[60]⟩, .string ⟨#[61]⟩] 9)).drew.cell? ⟨b, o + 4, none⟩ = some (.string (tget t.ks 0).h.name) ∧ ((w.alloc (.cells #[.int .u8 8, .int .u8 op, .int .i64 pl, .int .i64 nn, .string nm, .string ar, .string ex, .slice (some ⟨b, o, none⟩) 2 c] 29)).alloc (.cells #[.string ⟨#[43]⟩, .string ⟨#[45]⟩, .string ⟨#[42]⟩, .string ⟨#[60]⟩, .string ⟨#[61]⟩] 9)).drew.cell? ⟨b, o + 5, none⟩ = some (.string (tget t.ks 0).h.arg) ∧ ((w.alloc (.cells #[.int .u8 8, .int .u8 op, .int .i64 pl, .int .i64 nn, .string nm, .string ar, .string ex, .slice (some ⟨b, o, none⟩) 2 c] 29)).alloc (.cells #[.string ⟨#[43]⟩, .string ⟨#[45]⟩, .string ⟨#[42]⟩, .string ⟨#[60]⟩, .string ⟨#[61]⟩] 9)).drew.cell? ⟨b, o + 6, none⟩ = some (.string (tget t.ks 0).h.exn) ∧ ((w.alloc (.cells #[.int .u8 8, .int .u8 op, .int .i64 pl, .int .i64 nn, .string nm, .string ar, .string ex, .slice (some ⟨b, o, none⟩) 2 c] 29)).alloc (.cells #[.string ⟨#[43]⟩, .string ⟨#[45]⟩, .string ⟨#[42]⟩, .string ⟨#[60]⟩, .string ⟨#[61]⟩] 9)).drew.cell? ⟨b, o + 7, none⟩ = some (.slice q0 (tget t.ks 0).ks.length d0) ∧ ((w.alloc (.cells #[.int .u8 8, .int .u8 op, .int .i64 pl, .int .i64 nn, .string nm, .string ar, .string ex, .slice (some ⟨b, o, none⟩) 2 c] 29)).alloc (.cells #[.string ⟨#[43]⟩, .string ⟨#[45]⟩, .string ⟨#[42]⟩, .string ⟨#[60]⟩, .string ⟨#[61]⟩] 9)).drew.cell? ⟨b, o + 8, none⟩ = some (.int .u8 (tget t.ks 1).h.k) ∧ ((w.alloc (.cells #[.int .u8 8, .int .u8 op, .int .i64 pl, .int .i64 nn, .string nm, .string ar, .string ex, .slice (some ⟨b, o, none⟩) 2 c] 29)).alloc (.cells #[.string ⟨#[43]⟩, .string ⟨#[45]⟩, .string ⟨#[42]⟩, .string ⟨#[60]⟩, .string ⟨#[61]⟩] 9)).drew.cell? ⟨b, o + 8 + 1, none⟩ = some (.int .u8 (tget t.ks 1).h.op) ∧ ((w.alloc (.cells #[.int .u8 8, .int .u8 op, .int .i64 pl, .int .i64 nn, .string nm, .string ar, .string ex, .slice (some ⟨b, o, none⟩) 2 c] 29)).alloc (.cells #[.string ⟨#[43]⟩, .string ⟨#[45]⟩, .string ⟨#[42]⟩, .string ⟨#[60]⟩, .string ⟨#[61]⟩] 9)).drew.cell? ⟨b, o + 8 + 2, none⟩ = some (.int .i64 (tget t.ks 1).h.pl) ∧ ((w.alloc (.cells #[.int .u8 8, .int .u8 op, .int .i64 pl, .int .i64 nn, .string nm, .string ar, .string ex, .slice (some ⟨b, o, none⟩) 2 c] 29)).alloc (.cells #[.string ⟨#[43]⟩, .string ⟨#[45]⟩, .string ⟨#[42]⟩, .string ⟨#[60]⟩, .string ⟨#[61]⟩] 9)).drew.cell? ⟨b, o + 8 + 3, none⟩ = some (.int .i64 (tget t.ks 1).h.n) ∧ ((w.alloc (.cells #[.int .u8 8, .int .u8 op, .int .i64 pl, .int .i64 nn, .string nm, .string ar, .string ex, .slice (some ⟨b, o, none⟩) 2 c] 29)).alloc (.cells #[.string ⟨#[43]⟩, .string ⟨#[45]⟩, .string ⟨#[42]⟩, .string ⟨#[60]⟩, .string ⟨#[61]⟩] 9)).drew.cell? ⟨b, o + 8 + 4, none⟩ = some (.string (tget t.ks 1).h.name) ∧ ((w.alloc (.cells #[.int .u8 8, .int .u8 op, .int .i64 pl, .int .i64 nn, .string nm, .string ar, .string ex, .slice (some ⟨b, o, none⟩) 2 c] 29)).alloc (.cells #[.string ⟨#[43]⟩, .string ⟨#[45]⟩, .string ⟨#[42]⟩, .string ⟨#[60]⟩, .string ⟨#[61]⟩] 9)).drew.cell? ⟨b, o + 8 + 5, none⟩ = some (.string (tget t.ks 1).h.arg) ∧ ((w.alloc (.cells #[.int .u8 8, .int .u8 op, .int .i64 pl, .int .i64 nn, .string nm, .string ar, .string ex, .slice (some ⟨b, o, none⟩) 2 c] 29)).alloc (.cells #[.string ⟨#[43]⟩, .string ⟨#[45]⟩, .string ⟨#[42]⟩, .string ⟨#[60]⟩, .string ⟨#[61]⟩] 9)).drew.cell? ⟨b, o + 8 + 6, none⟩ = some (.string (tget t.ks 1).h.exn) ∧ ((w.alloc (.cells #[.int .u8 8, .int .u8 op, .int .i64 pl, .int .i64 nn, .string nm, .string ar, .string ex, .slice (some ⟨b, o, none⟩) 2 c] 29)).alloc (.cells #[.string ⟨#[43]⟩, .string ⟨#[45]⟩, .string ⟨#[42]⟩, .string ⟨#[60]⟩, .string ⟨#[61]⟩] 9)).drew.cell? ⟨b, o + 8 + 7, none⟩ = some (.slice q1 (tget t.ks 1).ks.length d1) ∧ Below w.heap.size w ((w.alloc (.cells #[.int .u8 8, .int .u8 op, .int .i64 pl, .int .i64 nn, .string nm, .string ar, .string ex, .slice (some ⟨b, o, none⟩) 2 c] 29)).alloc (.cells #[.string ⟨#[43]⟩, .string ⟨#[45]⟩, .string ⟨#[42]⟩, .string ⟨#[60]⟩, .string ⟨#[61]⟩] 9)).drew := by
    have hbz : Below w0.heap.size w0 ((w.alloc (.cells #[.int .u8 8, .int .u8 op, .int .i64 pl, .int .i64 nn, .string nm, .string ar, .string ex, .slice (some ⟨b, o, none⟩) 2 c] 29)).alloc (.cells #[.string ⟨#[43]⟩, .string ⟨#[45]⟩, .string ⟨#[42]⟩, .string ⟨#[60]⟩, .string ⟨#[61]⟩] 9)).drew := (hb.trans (hbw.mono hb.size)).drew
    obtain ⟨x0_0, x0_1, x0_2, x0_3, x0_4, x0_5, x0_6, x0_7, _⟩ := hc0 _ hbz
    obtain ⟨x1_0, x1_1, x1_2, x1_3, x1_4, x1_5, x1_6, x1_7, _⟩ := hc1 _ hbz
    exact ⟨x0_0, x0_1, x0_2, x0_3, x0_4, x0_5, x0_6, x0_7, x1_0, x1_1, x1_2, x1_3, x1_4, x1_5, x1_6, x1_7, hbw.drew⟩
  have HF := Lib.hid hfull; have HA0 := Lib.hid ha0; have HA1 := Lib.hid ha1; have HS0 := Lib.hid hS0; have HQ0 := Lib.hid hq0; have HQ1 := Lib.hid hq1
  clear hbox hlen hkk hk hcap hsz ew hfull hT hI hb hok hm hw hI0 hc0 ok0 ne0 na0 hI1 hc1 ok1 ne1 na1 ha0 ha1 hk0 hk1 hkeep hbw hS0 hq0 hq1
  have ha0 := HA0.out
  have ha1 := HA1.out
  clear HA0 HA1
  generalize jb (asW 2 (kdT (tget t.ks 0))) = J0 at *
  generalize jb (asW 2 (kdT (tget t.ks 1))) = J1 at *
  generalize hX0 : (J0 ++ ⟨#[32, 58, 61, 32]⟩ : ByteArray) = X0 at *
  generalize hX1 : (X0 ++ J1 : ByteArray) = X1 at *
  clear hX0 hX1
  go_enter Tryz.func40, Tryz.ntmps40
  go_wp2_with (fail)
  go_region_held3 (fun V => (V.cell? ⟨b, o, none⟩ = some (.int .u8 (tget t.ks 0).h.k) ∧ V.cell? ⟨b, o + 1, none⟩ = some (.int .u8 (tget t.ks 0).h.op) ∧ V.cell? ⟨b, o + 2, none⟩ = some (.int .i64 (tget t.ks 0).h.pl) ∧ V.cell? ⟨b, o + 3, none⟩ = some (.int .i64 (tget t.ks 0).h.n) ∧ V.cell? ⟨b, o + 4, none⟩ = some (.string (tget t.ks 0).h.name) ∧ V.cell? ⟨b, o + 5, none⟩ = some (.string (tget t.ks 0).h.arg) ∧ V.cell? ⟨b, o + 6, none⟩ = some (.string (tget t.ks 0).h.exn) ∧ V.cell? ⟨b, o + 7, none⟩ = some (.slice q0 (tget t.ks 0).ks.length d0) ∧ V.cell? ⟨b, o + 8, none⟩ = some (.int .u8 (tget t.ks 1).h.k) ∧ V.cell? ⟨b, o + 8 + 1, none⟩ = some (.int .u8 (tget t.ks 1).h.op) ∧ V.cell? ⟨b, o + 8 + 2, none⟩ = some (.int .i64 (tget t.ks 1).h.pl) ∧ V.cell? ⟨b, o + 8 + 3, none⟩ = some (.int .i64 (tget t.ks 1).h.n) ∧ V.cell? ⟨b, o + 8 + 4, none⟩ = some (.string (tget t.ks 1).h.name) ∧ V.cell? ⟨b, o + 8 + 5, none⟩ = some (.string (tget t.ks 1).h.arg) ∧ V.cell? ⟨b, o + 8 + 6, none⟩ = some (.string (tget t.ks 1).h.exn) ∧ V.cell? ⟨b, o + 8 + 7, none⟩ = some (.slice q1 (tget t.ks 1).ks.length d1) ∧ Below w.heap.size w V)) (first | exact HS0.out | assumption) (first
    | (go_at_call 77; with_reducible refine (HQ0.out _ ?_).mono ?_; (first | exact HS0.out | assumption); rintro e w' ⟨rfl, hS'⟩)
    | (go_at_call 77; with_reducible refine (HQ1.out _ ?_).mono ?_; (first | exact HS0.out | assumption); rintro e w' ⟨rfl, hS'⟩))
  all_goals try go_wp2_with (fail)
  all_goals go_ret
  all_goals exact ⟨(by rw [← HF.out]; rfl), hS'.2.2.2.2.2.2.2.2.2.2.2.2.2.2.2.2⟩
end Show
end Go.Proofs.YtkcadkjpneoobaaGreatDoor
namespace Go.Proofs.YtkcadkjpneoobaaGreatDoor
open Go.RowKit
set_option linter.unusedVariables false
set_option linter.unusedSimpArgs false
namespace Show
open Parse (wLet wLetrec wIn wFn wIf wThen wElse wRaise wTry wWith wRef wFst wSnd wExn wIs wArrow wPut wLess wAdd wSub wMul wGet wOpen wShut wComma wSemi)
open Term (Tm Hd TmIs Kids tget wt wts okT okK mayT)
open Words (StrsAt sel nameB exnB)
open Token (jb)
set_option maxRecDepth 100000 in
set_option maxHeartbeats 12800000 in
theorem ref_app (w0 : World) (m : Nat) (hT : TextIs w0 m) (t : Tm) (op pl nn : Int) (nm ar ex : ByteArray) (p : Option Addr) (l c : Nat) (w : World)
    (hm : wt t ≤ m + 1) (hw : wt t ≤ 4000) (hok : okT t = true) (hI : TmIs w0 ⟨10, op, pl, nn, nm, ar, ex⟩ p l c t) (hb : Below w0.heap.size w0 w) :
    Calls Tryz.prog 40 #[.agg #[.int .u8 10, .int .u8 op, .int .i64 pl, .int .i64 nn, .string nm, .string ar, .string ex, .slice p l c]] w fun e w' => e = .returned (.string (jb (wordsT t))) ∧ Below w.heap.size w w' := by
  have hbox : ∀ O O' : Obj, Below w.heap.size w ((w.alloc O).alloc O') := fun O O' => ((Below.refl _ _).alloc (Nat.le_refl _) O).alloc (by simp) O'
  have hlen := hI.len
  have hkk := (ok_kids hok).1
  rw [hI.head] at hkk
  obtain rfl : l = 2 := by have e : Term.kidsN 10 = 2 := by decide
                           have hkk' : Term.kidsN 10 = (t.ks.length : Int) := hkk
                           omega
  obtain ⟨b, o, rfl, hk⟩ := kids_at hI (by omega)
  obtain ⟨q0, d0, hI0, hc0⟩ := hk 0 (by omega)
  rw [show o + 0 * 8 = o from by omega] at hc0
  have ok0 := kid_ok (i := 0) (by omega) hok
  have ne0 := words_nil ok0
  obtain ⟨q1, d1, hI1, hc1⟩ := hk 1 (by omega)
  rw [show o + 1 * 8 = o + 8 from by omega] at hc1
  have ok1 := kid_ok (i := 1) (by omega) hok
  have ne1 := words_nil ok1
  have hcap := hI.cap
  have hsz := text_small hok hw
  have ew : wordsT t = asW 5 (kdT (tget t.ks 0)) ++ asW 6 (kdT (tget t.ks 1)) := by
    rw [wordsT_eq, hI.head]
    unfold comb
    simp [kd_get (show 0 < t.ks.length by omega), kd_get (show 1 < t.ks.length by omega), kdT]
  have na0 := fun p => asW_nil ok0 p
  have na1 := fun p => asW_nil ok1 p
  have hfull : ((jb (asW 5 (kdT (tget t.ks 0))) ++ ⟨#[32]⟩) ++ jb (asW 6 (kdT (tget t.ks 1)))) = jb (wordsT t) := by
    apply bl_inj
    rw [ew]
    simp only [kdT] at *
    simp [bl_append, bl_app, bl_cons, bl_one, List.append_assoc, ne0, na0, ne1, na1]
    try simp [bl]
  rw [← hfull] at hsz
  simp only [ByteArray.size_append] at hsz
  have ha0 : ∀ W, (Op.stringOp .add (jb (asW 5 (kdT (tget t.ks 0)))) (⟨#[32]⟩)).run Tryz.prog W = .ok (.string (jb (asW 5 (kdT (tget t.ks 0))) ++ ⟨#[32]⟩)) W := fun W => add_run _ _ _ rfl (by simp only [ByteArray.size_append]; omega) W
  have ha1 : ∀ W, (Op.stringOp .add ((jb (asW 5 (kdT (tget t.ks 0))) ++ ⟨#[32]⟩)) (jb (asW 6 (kdT (tget t.ks 1))))).run Tryz.prog W = .ok (.string ((jb (asW 5 (kdT (tget t.ks 0))) ++ ⟨#[32]⟩) ++ jb (asW 6 (kdT (tget t.ks 1))))) W := fun W => add_run _ _ _ rfl (by simp only [ByteArray.size_append]; omega) W
  have hk0 := fun W hb => refAs_walk w0 m hT (tget t.ks 0) _ q0 _ d0 5 W (kid_wt (by omega) hm) (by have := kid_wt (i := 0) (m := 3999) (t := t) (by omega) (by omega); omega) ok0 hI0 hb
  have hk1 := fun W hb => refAs_walk w0 m hT (tget t.ks 1) _ q1 _ d1 6 W (kid_wt (by omega) hm) (by have := kid_wt (i := 1) (m := 3999) (t := t) (by omega) (by omega); omega) ok1 hI1 hb
  have hcl : c ≤ 9223372036854775807 := by have := hcap.2; unfold maxLen at this; exact this
  have hcq := hcap.1
  have hkeep : ∀ V W : World, (V.cell? ⟨b, o, none⟩ = some (.int .u8 (tget t.ks 0).h.k) ∧ V.cell? ⟨b, o + 1, none⟩ = some (.int .u8 (tget t.ks 0).h.op) ∧ V.cell? ⟨b, o + 2, none⟩ = some (.int .i64 (tget t.ks 0).h.pl) ∧ V.cell? ⟨b, o + 3, none⟩ = some (.int .i64 (tget t.ks 0).h.n) ∧ V.cell? ⟨b, o + 4, none⟩ = some (.string (tget t.ks 0).h.name) ∧ V.cell? ⟨b, o + 5, none⟩ = some (.string (tget t.ks 0).h.arg) ∧ V.cell? ⟨b, o + 6, none⟩ = some (.string (tget t.ks 0).h.exn) ∧ V.cell? ⟨b, o + 7, none⟩ = some (.slice q0 (tget t.ks 0).ks.length d0) ∧ V.cell? ⟨b, o + 8, none⟩ = some (.int .u8 (tget t.ks 1).h.k) ∧ V.cell? ⟨b, o + 8 + 1, none⟩ = some (.int .u8 (tget t.ks 1).h.op) ∧ V.cell? ⟨b, o + 8 + 2, none⟩ = some (.int .i64 (tget t.ks 1).h.pl) ∧ V.cell? ⟨b, o + 8 + 3, none⟩ = some (.int .i64 (tget t.ks 1).h.n) ∧ V.cell? ⟨b, o + 8 + 4, none⟩ = some (.string (tget t.ks 1).h.name) ∧ V.cell? ⟨b, o + 8 + 5, none⟩ = some (.string (tget t.ks 1).h.arg) ∧ V.cell? ⟨b, o + 8 + 6, none⟩ = some (.string (tget t.ks 1).h.exn) ∧ V.cell? ⟨b, o + 8 + 7, none⟩ = some (.slice q1 (tget t.ks 1).ks.length d1) ∧ Below w.heap.size w V) → Below V.heap.size V W → (W.cell? ⟨b, o, none⟩ = some (.int .u8 (tget t.ks 0).h.k) ∧ W.cell? ⟨b, o + 1, none⟩ = some (.int .u8 (tget t.ks 0).h.op) ∧ W.cell? ⟨b, o + 2, none⟩ = some (.int .i64 (tget t.ks 0).h.pl) ∧ W.cell? ⟨b, o + 3, none⟩ = some (.int .i64 (tget t.ks 0).h.n) ∧ W.cell? ⟨b, o + 4, none⟩ = some (.string (tget t.ks 0).h.name) ∧ W.cell? ⟨b, o + 5, none⟩ = some (.string (tget t.ks 0).h.arg) ∧ W.cell? ⟨b, o + 6, none⟩ = some (.string (tget t.ks 0).h.exn) ∧ W.cell? ⟨b, o + 7, none⟩ = some (.slice q0 (tget t.ks 0).ks.length d0) ∧ W.cell? ⟨b, o + 8, none⟩ = some (.int .u8 (tget t.ks 1).h.k) ∧ W.cell? ⟨b, o + 8 + 1, none⟩ = some (.int .u8 (tget t.ks 1).h.op) ∧ W.cell? ⟨b, o + 8 + 2, none⟩ = some (.int .i64 (tget t.ks 1).h.pl) ∧ W.cell? ⟨b, o + 8 + 3, none⟩ = some (.int .i64 (tget t.ks 1).h.n) ∧ W.cell? ⟨b, o + 8 + 4, none⟩ = some (.string (tget t.ks 1).h.name) ∧ W.cell? ⟨b, o + 8 + 5, none⟩ = some (.string (tget t.ks 1).h.arg) ∧ W.cell? ⟨b, o + 8 + 6, none⟩ = some (.string (tget t.ks 1).h.exn) ∧ W.cell? ⟨b, o + 8 + 7, none⟩ = some (.slice q1 (tget t.ks 1).ks.length d1) ∧ Below w.heap.size w W) := by
    rintro V W ⟨s0, s1, s2, s3, s4, s5, s6, s7, s8, s9, s10, s11, s12, s13, s14, s15, s16⟩ hb
    have R := Term.Reads.of_below hb
    exact ⟨R _ _ s0, R _ _ s1, R _ _ s2, R _ _ s3, R _ _ s4, R _ _ s5, R _ _ s6, R _ _ s7, R _ _ s8, R _ _ s9, R _ _ s10, R _ _ s11, R _ _ s12, R _ _ s13, R _ _ s14, R _ _ s15, Term.below_then s16 hb s16.size⟩
  have hq0 := fun V (h : V.cell? ⟨b, o, none⟩ = some (.int .u8 (tget t.ks 0).h.k) ∧ V.cell? ⟨b, o + 1, none⟩ = some (.int .u8 (tget t.ks 0).h.op) ∧ V.cell? ⟨b, o + 2, none⟩ = some (.int .i64 (tget t.ks 0).h.pl) ∧ V.cell? ⟨b, o + 3, none⟩ = some (.int .i64 (tget t.ks 0).h.n) ∧ V.cell? ⟨b, o + 4, none⟩ = some (.string (tget t.ks 0).h.name) ∧ V.cell? ⟨b, o + 5, none⟩ = some (.string (tget t.ks 0).h.arg) ∧ V.cell? ⟨b, o + 6, none⟩ = some (.string (tget t.ks 0).h.exn) ∧ V.cell? ⟨b, o + 7, none⟩ = some (.slice q0 (tget t.ks 0).ks.length d0) ∧ V.cell? ⟨b, o + 8, none⟩ = some (.int .u8 (tget t.ks 1).h.k) ∧ V.cell? ⟨b, o + 8 + 1, none⟩ = some (.int .u8 (tget t.ks 1).h.op) ∧ V.cell? ⟨b, o + 8 + 2, none⟩ = some (.int .i64 (tget t.ks 1).h.pl) ∧ V.cell? ⟨b, o + 8 + 3, none⟩ = some (.int .i64 (tget t.ks 1).h.n) ∧ V.cell? ⟨b, o + 8 + 4, none⟩ = some (.string (tget t.ks 1).h.name) ∧ V.cell? ⟨b, o + 8 + 5, none⟩ = some (.string (tget t.ks 1).h.arg) ∧ V.cell? ⟨b, o + 8 + 6, none⟩ = some (.string (tget t.ks 1).h.exn) ∧ V.cell? ⟨b, o + 8 + 7, none⟩ = some (.slice q1 (tget t.ks 1).ks.length d1) ∧ Below w.heap.size w V) => (hk0 V (hb.trans (h.2.2.2.2.2.2.2.2.2.2.2.2.2.2.2.2.mono hb.size))).mono fun e w' (hh : e = .returned (.string (jb (asW 5 (kdT (tget t.ks 0))))) ∧ Below V.heap.size V w') => (⟨hh.1, hkeep V w' h hh.2⟩ : e = .returned (.string (jb (asW 5 (kdT (tget t.ks 0))))) ∧ w'.cell? ⟨b, o, none⟩ = some (.int .u8 (tget t.ks 0).h.k) ∧ w'.cell? ⟨b, o + 1, none⟩ = some (.int .u8 (tget t.ks 0).h.op) ∧ w'.cell? ⟨b, o + 2, none⟩ = some (.int .i64 (tget t.ks 0).h.pl) ∧ w'.cell? ⟨b, o + 3, none⟩ = some (.int .i64 (tget t.ks 0).h.n) ∧ w'.cell? ⟨b, o + 4, none⟩ = some (.string (tget t.ks 0).h.name) ∧ w'.cell? ⟨b, o + 5, none⟩ = some (.string (tget t.ks 0).h.arg) ∧ w'.cell? ⟨b, o + 6, none⟩ = some (.string (tget t.ks 0).h.exn) ∧ w'.cell? ⟨b, o + 7, none⟩ = some (.slice q0 (tget t.ks 0).ks.length d0) ∧ w'.cell? ⟨b, o + 8, none⟩ = some (.int .u8 (tget t.ks 1).h.k) ∧ w'.cell? ⟨b, o + 8 + 1, none⟩ = some (.int .u8 (tget t.ks 1).h.op) ∧ w'.cell? ⟨b, o + 8 + 2, none⟩ = some (.int .i64 (tget t.ks 1).h.pl) ∧ w'.cell? ⟨b, o + 8 + 3, none⟩ = some (.int .i64 (tget t.ks 1).h.n) ∧ w'.cell? ⟨b, o + 8 + 4, none⟩ = some (.string (tget t.ks 1).h.name) ∧ w'.cell? ⟨b, o + 8 + 5, none⟩ = some (.string (tget t.ks 1).h.arg) ∧ w'.cell? ⟨b, o + 8 + 6, none⟩ = some (.string (tget t.ks 1).h.exn) ∧ w'.cell? ⟨b, o + 8 + 7, none⟩ = some (.slice q1 (tget t.ks 1).ks.length d1) ∧ Below w.heap.size w w')
  have hq1 := fun V (h : V.cell? ⟨b, o, none⟩ = some (.int .u8 (tget t.ks 0).h.k) ∧ V.cell? ⟨b, o + 1, none⟩ = some (.int .u8 (tget t.ks 0).h.op) ∧ V.cell? ⟨b, o + 2, none⟩ = some (.int .i64 (tget t.ks 0).h.pl) ∧ V.cell? ⟨b, o + 3, none⟩ = some (.int .i64 (tget t.ks 0).h.n) ∧ V.cell? ⟨b, o + 4, none⟩ = some (.string (tget t.ks 0).h.name) ∧ V.cell? ⟨b, o + 5, none⟩ = some (.string (tget t.ks 0).h.arg) ∧ V.cell? ⟨b, o + 6, none⟩ = some (.string (tget t.ks 0).h.exn) ∧ V.cell? ⟨b, o + 7, none⟩ = some (.slice q0 (tget t.ks 0).ks.length d0) ∧ V.cell? ⟨b, o + 8, none⟩ = some (.int .u8 (tget t.ks 1).h.k) ∧ V.cell? ⟨b, o + 8 + 1, none⟩ = some (.int .u8 (tget t.ks 1).h.op) ∧ V.cell? ⟨b, o + 8 + 2, none⟩ = some (.int .i64 (tget t.ks 1).h.pl) ∧ V.cell? ⟨b, o + 8 + 3, none⟩ = some (.int .i64 (tget t.ks 1).h.n) ∧ V.cell? ⟨b, o + 8 + 4, none⟩ = some (.string (tget t.ks 1).h.name) ∧ V.cell? ⟨b, o + 8 + 5, none⟩ = some (.string (tget t.ks 1).h.arg) ∧ V.cell? ⟨b, o + 8 + 6, none⟩ = some (.string (tget t.ks 1).h.exn) ∧ V.cell? ⟨b, o + 8 + 7, none⟩ = some (.slice q1 (tget t.ks 1).ks.length d1) ∧ Below w.heap.size w V) => (hk1 V (hb.trans (h.2.2.2.2.2.2.2.2.2.2.2.2.2.2.2.2.mono hb.size))).mono fun e w' (hh : e = .returned (.string (jb (asW 6 (kdT (tget t.ks 1))))) ∧ Below V.heap.size V w') => (⟨hh.1, hkeep V w' h hh.2⟩ : e = .returned (.string (jb (asW 6 (kdT (tget t.ks 1))))) ∧ w'.cell? ⟨b, o, none⟩ = some (.int .u8 (tget t.ks 0).h.k) ∧ w'.cell? ⟨b, o + 1, none⟩ = some (.int .u8 (tget t.ks 0).h.op) ∧ w'.cell? ⟨b, o + 2, none⟩ = some (.int .i64 (tget t.ks 0).h.pl) ∧ w'.cell? ⟨b, o + 3, none⟩ = some (.int .i64 (tget t.ks 0).h.n) ∧ w'.cell? ⟨b, o + 4, none⟩ = some (.string (tget t.ks 0).h.name) ∧ w'.cell? ⟨b, o + 5, none⟩ = some (.string (tget t.ks 0).h.arg) ∧ w'.cell? ⟨b, o + 6, none⟩ = some (.string (tget t.ks 0).h.exn) ∧ w'.cell? ⟨b, o + 7, none⟩ = some (.slice q0 (tget t.ks 0).ks.length d0) ∧ w'.cell? ⟨b, o + 8, none⟩ = some (.int .u8 (tget t.ks 1).h.k) ∧ w'.cell? ⟨b, o + 8 + 1, none⟩ = some (.int .u8 (tget t.ks 1).h.op) ∧ w'.cell? ⟨b, o + 8 + 2, none⟩ = some (.int .i64 (tget t.ks 1).h.pl) ∧ w'.cell? ⟨b, o + 8 + 3, none⟩ = some (.int .i64 (tget t.ks 1).h.n) ∧ w'.cell? ⟨b, o + 8 + 4, none⟩ = some (.string (tget t.ks 1).h.name) ∧ w'.cell? ⟨b, o + 8 + 5, none⟩ = some (.string (tget t.ks 1).h.arg) ∧ w'.cell? ⟨b, o + 8 + 6, none⟩ = some (.string (tget t.ks 1).h.exn) ∧ w'.cell? ⟨b, o + 8 + 7, none⟩ = some (.slice q1 (tget t.ks 1).ks.length d1) ∧ Below w.heap.size w w')
  have hbw := hbox (.cells #[.int .u8 10, .int .u8 op, .int .i64 pl, .int .i64 nn, .string nm, .string ar, .string ex, .slice (some ⟨b, o, none⟩) 2 c] 29) (.cells #[.string ⟨#[43]⟩, .string ⟨#[45]⟩, .string ⟨#[42]⟩, .string ⟨#[60]⟩, .string ⟨#[61]⟩] 9)
  have hS0 : ((w.alloc (.cells #[.int .u8 10, .int .u8 op, .int .i64 pl, .int .i64 nn, .string nm, .string ar, .string ex, .slice (some ⟨b, o, none⟩) 2 c] 29)).alloc (.cells #[.string ⟨#[43]⟩, .string ⟨#[45]⟩, .string ⟨#[42]⟩, .string ⟨#[60]⟩, .string ⟨#[61]⟩] 9)).drew.cell? ⟨b, o, none⟩ = some (.int .u8 (tget t.ks 0).h.k) ∧ ((w.alloc (.cells #[.int .u8 10, .int .u8 op, .int .i64 pl, .int .i64 nn, .string nm, .string ar, .string ex, .slice (some ⟨b, o, none⟩) 2 c] 29)).alloc (.cells #[.string ⟨#[43]⟩, .string ⟨#[45]⟩, .string ⟨#[42]⟩, .string ⟨#[60]⟩, .string ⟨#[61]⟩] 9)).drew.cell? ⟨b, o + 1, none⟩ = some (.int .u8 (tget t.ks 0).h.op) ∧ ((w.alloc (.cells #[.int .u8 10, .int .u8 op, .int .i64 pl, .int .i64 nn, .string nm, .string ar, .string ex, .slice (some ⟨b, o, none⟩) 2 c] 29)).alloc (.cells #[.string ⟨#[43]⟩, .string ⟨#[45]⟩, .string ⟨#[42]⟩, .string ⟨#[60]⟩, .string ⟨#[61]⟩] 9)).drew.cell? ⟨b, o + 2, none⟩ = some (.int .i64 (tget t.ks 0).h.pl) ∧ ((w.alloc (.cells #[.int .u8 10, .int .u8 op, .int .i64 pl, .int .i64 nn, .string nm, .string ar, .string ex, .slice (some ⟨b, o, none⟩) 2 c] 29)).alloc (.cells #[.string ⟨#[43]⟩, .string ⟨#[45]⟩, .string ⟨#[42]⟩, .string ⟨#[60]⟩, .string ⟨#[61]⟩] 9)).drew.cell? ⟨b, o + 3, none⟩ = some (.int .i64 (tget t.ks 0).h.n) ∧ ((w.alloc (.cells #[.int .u8 10, .int .u8 op, .int .i64 pl, .int .i64 nn, .string nm, .string ar, .string ex, .slice (some ⟨b, o, none⟩) 2 c] 29)).alloc (.cells #[.string ⟨#[43]⟩, .string ⟨#[45]⟩, .string ⟨#[42]⟩, .string ⟨#[60]⟩, .string ⟨#[61]⟩] 9)).drew.cell? ⟨b, o + 4, none⟩ = some (.string (tget t.ks 0).h.name) ∧ ((w.alloc (.cells #[.int .u8 10, .int .u8 op, .int .i64 pl, .int .i64 nn, .string nm, .string ar, .string ex, .slice (some ⟨b, o, none⟩) 2 c] 29)).alloc (.cells #[.string ⟨#[43]⟩, .string ⟨#[45]⟩, .string ⟨#[42]⟩, .string ⟨#[60]⟩, .string ⟨#[61]⟩] 9)).drew.cell? ⟨b, o + 5, none⟩ = some (.string (tget t.ks 0).h.arg) ∧ ((w.alloc (.cells #[.int .u8 10, .int .u8 op, .int .i64 pl, .int .i64 nn, .string nm, .string ar, .string ex, .slice (some ⟨b, o, none⟩) 2 c] 29)).alloc (.cells #[.string ⟨#[43]⟩, .string ⟨#[45]⟩, .string ⟨#[42]⟩, .string ⟨#[60]⟩, .string ⟨#[61]⟩] 9)).drew.cell? ⟨b, o + 6, none⟩ = some (.string (tget t.ks 0).h.exn) ∧ ((w.alloc (.cells #[.int .u8 10, .int .u8 op, .int .i64 pl, .int .i64 nn, .string nm, .string ar, .string ex, .slice (some ⟨b, o, none⟩) 2 c] 29)).alloc (.cells #[.string ⟨#[43]⟩, .string ⟨#[45]⟩, .string ⟨#[42]⟩, .string ⟨#[60]⟩, .string ⟨#[61]⟩] 9)).drew.cell? ⟨b, o + 7, none⟩ = some (.slice q0 (tget t.ks 0).ks.length d0) ∧ ((w.alloc (.cells #[.int .u8 10, .int .u8 op, .int .i64 pl, .int .i64 nn, .string nm, .string ar, .string ex, .slice (some ⟨b, o, none⟩) 2 c] 29)).alloc (.cells #[.string ⟨#[43]⟩, .string ⟨#[45]⟩, .string ⟨#[42]⟩, .string ⟨#[60]⟩, .string ⟨#[61]⟩] 9)).drew.cell? ⟨b, o + 8, none⟩ = some (.int .u8 (tget t.ks 1).h.k) ∧ ((w.alloc (.cells #[.int .u8 10, .int .u8 op, .int .i64 pl, .int .i64 nn, .string nm, .string ar, .string ex, .slice (some ⟨b, o, none⟩) 2 c] 29)).alloc (.cells #[.string ⟨#[43]⟩, .string ⟨#[45]⟩, .string ⟨#[42]⟩, .string ⟨#[60]⟩, .string ⟨#[61]⟩] 9)).drew.cell? ⟨b, o + 8 + 1, none⟩ = some (.int .u8 (tget t.ks 1).h.op) ∧ ((w.alloc (.cells #[.int .u8 10, .int .u8 op, .int .i64 pl, .int .i64 nn, .string nm, .string ar, .string ex, .slice (some ⟨b, o, none⟩) 2 c] 29)).alloc (.cells #[.string ⟨#[43]⟩, .string ⟨#[45]⟩, .string ⟨#[42]⟩, .string ⟨#[60]⟩, .string ⟨#[61]⟩] 9)).drew.cell? ⟨b, o + 8 + 2, none⟩ = some (.int .i64 (tget t.ks 1).h.pl) ∧ ((w.alloc (.cells #[.int .u8 10, .int .u8 op, .int .i64 pl, .int .i64 nn, .string nm, .string ar, .string ex, .slice (some ⟨b, o, none⟩) 2 c] 29)).alloc (.cells #[.string ⟨#[43]⟩, .string ⟨#[45]⟩, .string ⟨#[42]⟩, .string ⟨#[60]⟩, .string ⟨#[61]⟩] 9)).drew.cell? ⟨b, o + 8 + 3, none⟩ = some (.int .i64 (tget t.ks 1).h.n) ∧ ((w.alloc (.cells #[.int .u8 10, .int .u8 op, .int .i64 pl, .int .i64 nn, .string nm, .string ar, .string ex, .slice (some ⟨b, o, none⟩) 2 c] 29)).alloc (.cells #[.string ⟨#[43]⟩, .string ⟨#[45]⟩, .string ⟨#[42]⟩, .string ⟨#[60]⟩, .string ⟨#[61]⟩] 9)).drew.cell? ⟨b, o + 8 + 4, none⟩ = some (.string (tget t.ks 1).h.name) ∧ ((w.alloc (.cells #[.int .u8 10, .int .u8 op, .int .i64 pl, .int .i64 nn, .string nm, .string ar, .string ex, .slice (some ⟨b, o, none⟩) 2 c] 29)).alloc (.cells #[.string ⟨#[43]⟩, .string ⟨#[45]⟩, .string ⟨#[42]⟩, .string ⟨#[60]⟩, .string ⟨#[61]⟩] 9)).drew.cell? ⟨b, o + 8 + 5, none⟩ = some (.string (tget t.ks 1).h.arg) ∧ ((w.alloc (.cells #[.int .u8 10, .int .u8 op, .int .i64 pl, .int .i64 nn, .string nm, .string ar, .string ex, .slice (some ⟨b, o, none⟩) 2 c] 29)).alloc (.cells #[.string ⟨#[43]⟩, .string ⟨#[45]⟩, .string ⟨#[42]⟩, .string ⟨#[60]⟩, .string ⟨#[61]⟩] 9)).drew.cell? ⟨b, o + 8 + 6, none⟩ = some (.string (tget t.ks 1).h.exn) ∧ ((w.alloc (.cells #[.int .u8 10, .int .u8 op, .int .i64 pl, .int .i64 nn, .string nm, .string ar, .string ex, .slice (some ⟨b, o, none⟩) 2 c] 29)).alloc (.cells #[.string ⟨#[43]⟩, .string ⟨#[45]⟩, .string ⟨#[42]⟩, .string ⟨#[60]⟩, .string ⟨#[61]⟩] 9)).drew.cell? ⟨b, o + 8 + 7, none⟩ = some (.slice q1 (tget t.ks 1).ks.length d1) ∧ Below w.heap.size w ((w.alloc (.cells #[.int .u8 10, .int .u8 op, .int .i64 pl, .int .i64 nn, .string nm, .string ar, .string ex, .slice (some ⟨b, o, none⟩) 2 c] 29)).alloc (.cells #[.string ⟨#[43]⟩, .string ⟨#[45]⟩, .string ⟨#[42]⟩, .string ⟨#[60]⟩, .string ⟨#[61]⟩] 9)).drew := by
    have hbz : Below w0.heap.size w0 ((w.alloc (.cells #[.int .u8 10, .int .u8 op, .int .i64 pl, .int .i64 nn, .string nm, .string ar, .string ex, .slice (some ⟨b, o, none⟩) 2 c] 29)).alloc (.cells #[.string ⟨#[43]⟩, .string ⟨#[45]⟩, .string ⟨#[42]⟩, .string ⟨#[60]⟩, .string ⟨#[61]⟩] 9)).drew := (hb.trans (hbw.mono hb.size)).drew
    obtain ⟨x0_0, x0_1, x0_2, x0_3, x0_4, x0_5, x0_6, x0_7, _⟩ := hc0 _ hbz
    obtain ⟨x1_0, x1_1, x1_2, x1_3, x1_4, x1_5, x1_6, x1_7, _⟩ := hc1 _ hbz
    exact ⟨x0_0, x0_1, x0_2, x0_3, x0_4, x0_5, x0_6, x0_7, x1_0, x1_1, x1_2, x1_3, x1_4, x1_5, x1_6, x1_7, hbw.drew⟩
  have HF := Lib.hid hfull; have HA0 := Lib.hid ha0; have HA1 := Lib.hid ha1; have HS0 := Lib.hid hS0; have HQ0 := Lib.hid hq0; have HQ1 := Lib.hid hq1
  clear hbox hlen hkk hk hcap hsz ew hfull hT hI hb hok hm hw hI0 hc0 ok0 ne0 na0 hI1 hc1 ok1 ne1 na1 ha0 ha1 hk0 hk1 hkeep hbw hS0 hq0 hq1
  have ha0 := HA0.out
  have ha1 := HA1.out
  clear HA0 HA1
  generalize jb (asW 5 (kdT (tget t.ks 0))) = J0 at *
  generalize jb (asW 6 (kdT (tget t.ks 1))) = J1 at *
  generalize hX0 : (J0 ++ ⟨#[32]⟩ : ByteArray) = X0 at *
  generalize hX1 : (X0 ++ J1 : ByteArray) = X1 at *
  clear hX0 hX1
  go_enter Tryz.func40, Tryz.ntmps40
  go_wp2_with (fail)
  go_region_held3 (fun V => (V.cell? ⟨b, o, none⟩ = some (.int .u8 (tget t.ks 0).h.k) ∧ V.cell? ⟨b, o + 1, none⟩ = some (.int .u8 (tget t.ks 0).h.op) ∧ V.cell? ⟨b, o + 2, none⟩ = some (.int .i64 (tget t.ks 0).h.pl) ∧ V.cell? ⟨b, o + 3, none⟩ = some (.int .i64 (tget t.ks 0).h.n) ∧ V.cell? ⟨b, o + 4, none⟩ = some (.string (tget t.ks 0).h.name) ∧ V.cell? ⟨b, o + 5, none⟩ = some (.string (tget t.ks 0).h.arg) ∧ V.cell? ⟨b, o + 6, none⟩ = some (.string (tget t.ks 0).h.exn) ∧ V.cell? ⟨b, o + 7, none⟩ = some (.slice q0 (tget t.ks 0).ks.length d0) ∧ V.cell? ⟨b, o + 8, none⟩ = some (.int .u8 (tget t.ks 1).h.k) ∧ V.cell? ⟨b, o + 8 + 1, none⟩ = some (.int .u8 (tget t.ks 1).h.op) ∧ V.cell? ⟨b, o + 8 + 2, none⟩ = some (.int .i64 (tget t.ks 1).h.pl) ∧ V.cell? ⟨b, o + 8 + 3, none⟩ = some (.int .i64 (tget t.ks 1).h.n) ∧ V.cell? ⟨b, o + 8 + 4, none⟩ = some (.string (tget t.ks 1).h.name) ∧ V.cell? ⟨b, o + 8 + 5, none⟩ = some (.string (tget t.ks 1).h.arg) ∧ V.cell? ⟨b, o + 8 + 6, none⟩ = some (.string (tget t.ks 1).h.exn) ∧ V.cell? ⟨b, o + 8 + 7, none⟩ = some (.slice q1 (tget t.ks 1).ks.length d1) ∧ Below w.heap.size w V)) (first | exact HS0.out | assumption) (first
    | (go_at_call 77; with_reducible refine (HQ0.out _ ?_).mono ?_; (first | exact HS0.out | assumption); rintro e w' ⟨rfl, hS'⟩)
    | (go_at_call 77; with_reducible refine (HQ1.out _ ?_).mono ?_; (first | exact HS0.out | assumption); rintro e w' ⟨rfl, hS'⟩))
  all_goals try go_wp2_with (fail)
  all_goals go_ret
  all_goals exact ⟨(by rw [← HF.out]; rfl), hS'.2.2.2.2.2.2.2.2.2.2.2.2.2.2.2.2⟩
end Show
end Go.Proofs.YtkcadkjpneoobaaGreatDoor
