/- The walks of a number's digits: the program's and the document's. -/
import Derived.Test.YtggabjmfdnfckaaDoorEfMath
import Derived.Test.YtggabjmfdnfckaaDoorEfShelf
import Derived.Lib.AppendIntMem
import Derived.Lib.LaidTab
import Derived.Lib.SmallJoins
import Derived.Laws.BytesArg
import Derived.LoopTactic
namespace Go.Proofs.YtggabjmfdnfckaaDoor
open Go.RowKit
set_option linter.unusedVariables false
namespace Effect

/-- A number's digits. -/
def digs (n : Int) : ByteArray := ⟨(Lib.itoa n).toArray⟩
theorem bytes_ext {s t : ByteArray} (h : s.data.toList = t.data.toList) : s = t := by
  cases s; cases t; simpa using h
/-- A text of one byte. -/
def oneB (x : Int) : ByteArray := ⟨#[UInt8.ofNat x.toNat]⟩
theorem byte_back (w : World) (x : Int) :
    (convert 69 9 (.slice (some ⟨w.heap.size, 0, none⟩) 1 1)).run Tryd.prog (w.alloc (.cells #[.int .u8 x] 5)) = .ok (.string (oneB x)) (w.alloc (.cells #[.int .u8 x] 5)) := by
  have := run_convert_bytes_arg (P := Tryd.prog) (w.alloc (.cells #[.int .u8 x] 5)) 69 5 Tryd.underlying69 Tryd.underlying5 w.heap.size 0 1 1 [x] rfl (fun i hi => by
    have : i = 0 := by omega
    subst this
    simp [go_sem]) 9 Tryd.underlying9
  exact this

theorem ret_str {a b : ByteArray} (h : a = b) : Ending.returned (.string a) = .returned (.string b) := by rw [h]
theorem dig_small (n : Int) (h0 : 0 ≤ n) (h : n < 10) : oneB (48 + n % 10) = ⟨(Lib.decDigits n.toNat).toArray⟩ := by
  unfold oneB
  rw [Lib.decDigits_one (by omega), show (48 + n % 10).toNat = 48 + n.toNat from by omega]
theorem dig_big (n : Int) (h : ¬ n < 10) : (⟨(Lib.decDigits (n / 10).toNat).toArray⟩ : ByteArray) ++ oneB (48 + n % 10) = ⟨(Lib.decDigits n.toNat).toArray⟩ := by
  apply bytes_ext
  rw [Lib.decDigits.eq_1 n.toNat, dif_neg (by omega)]
  unfold oneB
  rw [show (48 + n % 10).toNat = 48 + n.toNat % 10 from by omega, show (n / 10).toNat = n.toNat / 10 from by omega]
  simp [ByteArray.data_append]

theorem dig_add (n : Int) (h : ¬ n < 10) (h1 : n ≤ 9223372036854775807) (W : World) :
    (Op.stringOp .add (⟨(Lib.decDigits (n / 10).toNat).toArray⟩ : ByteArray) (oneB (48 + n % 10))).run Tryd.prog W = .ok (.string ⟨(Lib.decDigits n.toNat).toArray⟩) W := by
  rw [run_string_add_sum, dig_big n h]
  have e1 : (⟨(Lib.decDigits (n / 10).toNat).toArray⟩ : ByteArray).size = (Lib.decDigits (n / 10).toNat).length := by simp [ByteArray.size]
  have e2 : (oneB (48 + n % 10)).size = 1 := rfl
  have := Lib.nDigits_le20 (n / 10).toNat (by omega)
  rw [← Lib.decDigits_length] at this
  omega

set_option maxHeartbeats 400000 in
theorem refDigits_nat (k : Nat) : ∀ (n : Int) (w : World), n ≤ k → 0 ≤ n → n ≤ 9223372036854775807 →
    Calls Tryd.prog 40 #[.int .i64 n] w fun e w' => e = .returned (.string ⟨(Lib.decDigits n.toNat).toArray⟩) ∧ Below w.heap.size w w' := by
  induction k with
  | zero =>
    intro n w hk h0 h1
    have hbk := fun W => byte_back W (48 + n % 10)
    have hd := dig_small n h0 (by omega)
    have HD := Lib.hid hd; clear hd
    have hn : n < 10 := by omega
    go_enter Tryd.func40, Tryd.ntmps40
    go_wp2_with (fail)
    go_ret
    exact ⟨ret_str HD.out, (Below.refl _ _).alloc (Nat.le_refl _) _⟩
  | succ k ih =>
    intro n w hk h0 h1
    have hbk := fun W => byte_back W (48 + n % 10)
    by_cases hn : n < 10
    · have hd := dig_small n h0 hn
      have HD := Lib.hid hd
      clear hd ih
      go_enter Tryd.func40, Tryd.ntmps40
      go_wp2_with (fail)
      go_ret
      exact ⟨ret_str HD.out, (Below.refl _ _).alloc (Nat.le_refl _) _⟩
    · have hd := dig_add n hn h1
      have IH := Lib.hid ih
      clear ih
      go_enter Tryd.func40, Tryd.ntmps40
      go_wp2_with (fail)
      refine (IH.out (n / 10) _ (by omega) (by omega) (by omega)).mono ?_
      rintro e w' ⟨rfl, hb⟩
      have hb2 : Below w.heap.size w w' := ((Below.refl _ _).alloc (Nat.le_refl _) _).trans (hb.mono (by simp))
      have HB := Lib.hid hb2; clear hb hb2 hbk
      go_wp2
      go_ret
      exact ⟨rfl, HB.out⟩

/-! ### Of any int64 -/
def least : Int := -9223372036854775808
def leastText : ByteArray := ⟨#[45, 57, 50, 50, 51, 51, 55, 50, 48, 51, 54, 56, 53, 52, 55, 55, 53, 56, 48, 56]⟩
theorem least_itoa : leastText = ⟨(Lib.itoa least).toArray⟩ := by
  unfold least leastText Lib.itoa
  simp [Lib.decDigits]
theorem neg_add (n : Int) (h : n < 0) (h1 : -9223372036854775808 ≤ n) (W : World) :
    (Op.stringOp .add (⟨#[45]⟩ : ByteArray) (⟨(Lib.decDigits (-n).toNat).toArray⟩ : ByteArray)).run Tryd.prog W = .ok (.string ⟨(Lib.itoa n).toArray⟩) W := by
  rw [run_string_add_sum]
  · have : (⟨#[45]⟩ : ByteArray) ++ (⟨(Lib.decDigits (-n).toNat).toArray⟩ : ByteArray) = ⟨(Lib.itoa n).toArray⟩ := by
      apply bytes_ext
      unfold Lib.itoa
      rw [if_pos h, show n.natAbs = (-n).toNat from by omega]
      simp [ByteArray.data_append]
    rw [this]
  have e1 : (⟨(Lib.decDigits (-n).toNat).toArray⟩ : ByteArray).size = (Lib.decDigits (-n).toNat).length := by simp [ByteArray.size]
  have e2 : (⟨#[45]⟩ : ByteArray).size = 1 := rfl
  have := Lib.nDigits_le20 (-n).toNat (by omega)
  rw [← Lib.decDigits_length] at this
  omega

set_option maxHeartbeats 400000 in
theorem refDigits_walk (n : Int) (h0 : -9223372036854775808 ≤ n) (h1 : n ≤ 9223372036854775807) (w : World) :
    Calls Tryd.prog 40 #[.int .i64 n] w fun e w' => e = .returned (.string ⟨(Lib.itoa n).toArray⟩) ∧ Below w.heap.size w w' := by
  by_cases hn : n < 0
  · by_cases hm : n = least
    · have ht := least_itoa
      have hlt : least < 0 := by decide
      have HT := Lib.hid ht
      subst hm
      have e : (least == -9223372036854775808) = true := by decide
      clear ht h0 h1 hn
      go_enter Tryd.func40, Tryd.ntmps40
      go_wp2_with (fail)
      go_ret
      exact ⟨ret_str HT.out, Below.refl _ _⟩
    · have hd := neg_add n hn h0
      have hne : (n == -9223372036854775808) = false := by rw [beq_eq_false_iff_ne]; exact hm
      have hlo : -9223372036854775807 ≤ n := by unfold least at hm; omega
      have HM := Lib.hid hm
      clear hm h0
      go_enter Tryd.func40, Tryd.ntmps40
      go_wp2_with (fail)
      refine (refDigits_nat (-n).toNat (-n) _ (by omega) (by omega) (by omega)).mono ?_
      rintro e w' ⟨rfl, hb⟩
      have HB := Lib.hid hb; clear hb hne
      go_wp2
      go_ret
      exact ⟨rfl, HB.out⟩
  · refine (refDigits_nat n.toNat n w (by omega) (by omega) h1).mono ?_
    rintro e w' ⟨rfl, hb⟩
    refine ⟨ret_str ?_, hb⟩
    unfold Lib.itoa
    rw [if_neg hn]


/-! ### The program's -/
def NumLaid (w : World) : Prop := Lib.TabIs Tryd.prog w "internal/strconv.uint64pow10" .u64 Lib.pow10Tab
theorem gPow : Tryd.prog.globalNamed "internal/strconv.uint64pow10" = some 1 := by kernel_rfl
theorem NumLaid.below {w W : World} (h : NumLaid w) (hb : Below w.heap.size w W) : NumLaid W := Go.Joins.tab_stays gPow h hb (Nat.le_refl _)
theorem digitsOf_walk (n : Int) (h0 : -9223372036854775808 ≤ n) (h1 : n ≤ 9223372036854775807) (w : World) (hl : NumLaid w) :
    Calls Tryd.prog 59 #[.int .i64 n] w fun e w' => e = .returned (.string (digs n)) ∧ Below w.heap.size w w' := by
  have H0 := Lib.hid h0; have H1 := Lib.hid h1; have HL := Lib.hid hl
  clear h0 h1 hl
  go_enter Tryd.func59, Tryd.ntmps59
  go_wp2_with (fail)
  refine (Tryd.strconv_FormatInt_10 n H0.out H1.out _ HL.out).mono ?_
  rintro e w' ⟨rfl, k, os, rfl⟩
  have hb := Lib.below_grow w.heap.size w (Nat.le_refl _) k os
  have HB := Lib.hid hb; clear hb
  go_wp2
  go_ret
  exact ⟨rfl, HB.out⟩
end Effect
end Go.Proofs.YtggabjmfdnfckaaDoor
