/-The walks of the program's numbers and digits. The walk of the program's digits of a number. The walks of the document's digits and numbers. From what a row lists of package-level variables to what layer 2's walks ask of the world. -/
import Derived.Test.YtadpjkehflokcaaGreatDoorGWordsA
import Derived.Test.YtadpjkehflokcaaGreatDoorWordsShelf
import Derived.Lib.AppendIntMem
import Derived.Laws.BytesArg
import Derived.Stop.LaidErr
import Derived.LaidMore
import Derived.LaidByTextLater
namespace Go.Proofs.YtadpjkehflokcaaGreatDoor
open Go.RowKit
namespace Words
open Chars (ret_i64 ret_bool cls el isin run spanI BytesAt Bytes bytes_new)

/-- What strconv's own variables hold. -/
def NumLaid (w : World) : Prop := Lib.TabIs Tryz.prog w "internal/strconv.uint64pow10" .u64 Lib.pow10Tab ∧ ∃ tp p, w.var? Tryz.prog "strconv.ErrRange" = some #[.iface tp p]
theorem gPow : Tryz.prog.globalNamed "internal/strconv.uint64pow10" = some 2 := by kernel_rfl
theorem gRange : Tryz.prog.globalNamed "strconv.ErrRange" = some 6 := by kernel_rfl
theorem NumLaid.below {w W : World} (h : NumLaid w) (hb : Below w.heap.size w W) : NumLaid W := by
  obtain ⟨h1, tp, p, h2⟩ := h
  exact ⟨Go.Joins.tab_stays gPow h1 hb (Nat.le_refl _), tp, p, Go.Joins.var_stays gRange h2 hb (Nat.le_refl _)⟩

/-- The variables that layer 2 reads. -/
def Laid2 (w : World) : Prop := KwLaid w ∧ NumLaid w
theorem Laid2.below {w W : World} (h : Laid2 w) (hb : Below w.heap.size w W) : Laid2 W := ⟨h.1.below hb, h.2.below hb⟩

theorem parse_walk (s : ByteArray) (hs : s.size ≤ 1000000) (h0 : s.data.toList ≠ []) (hd : digB s.data.toList = true) (w : World) (hl : NumLaid w) :
    Calls Tryz.prog 144 #[.string s, .int .i64 10, .int .i64 64] w fun e w' => ((e = .returned (.tuple #[.int .i64 (decVal s.data.toList : Nat), .nilIface]) ∧ (decVal s.data.toList : Int) ≤ 9223372036854775807) ∨ (∃ v t p, e = .returned (.tuple #[.int .i64 v, .iface t (.pointer (some p))]) ∧ 2147483647 < decVal s.data.toList)) ∧ Below w.heap.size w w' := by
  obtain ⟨_, tp, p, hv⟩ := hl
  rcases parse_int s.data.toList h0 hd with ⟨h, hlt⟩ | ⟨h, hge⟩
  · refine (Tryz.strconv_ParseInt_10_at64_ok s (by omega) _ h w).mono ?_
    rintro e w' ⟨rfl, hw⟩
    refine ⟨.inl ⟨rfl, by omega⟩, ?_⟩
    rcases hw with rfl | ⟨t, rfl⟩
    · exact Below.refl _ _
    · exact Go.Joins.below_bytesWorld _ _ _ _ (Nat.le_refl _)
  · refine (Tryz.strconv_ParseInt_10_at64_range_var s (by omega) h tp p w hv).mono ?_
    rintro e w' ⟨N, rfl, _, _, hb⟩
    exact ⟨.inr ⟨_, _, _, rfl, by omega⟩, hb⟩

theorem ret_num {v v' : Int} {b b' : Bool} (h : v = v') (h' : b = b') : Ending.returned (.tuple #[.int .i64 v, .bool b]) = .returned (.tuple #[.int .i64 v', .bool b']) := by rw [h, h']

theorem num_no {l : List UInt8} (h : numB l = false) : 0 = numV l ∧ false = numB l := by
  unfold numV
  rw [h]
  exact ⟨rfl, rfl⟩
theorem num_yes {l : List UInt8} (h : numB l = true) : (decVal l : Int) = numV l ∧ true = numB l := by
  unfold numV
  rw [h]
  exact ⟨rfl, rfl⟩
theorem num_not {l : List UInt8} (h : ¬ (l ≠ [] ∧ digB l = true ∧ ¬ (l.head? = some 48 ∧ 1 < l.length) ∧ decVal l ≤ 2147483647)) : numB l = false := by
  rw [Bool.eq_false_iff]
  exact fun hn => h (numB_true hn)

/-- What Number comes to. -/
def NumEnd (s : ByteArray) (e : Ending) : Prop := e = .returned (.tuple #[.int .i64 (numV s.data.toList), .bool (numB s.data.toList)])

/-- Behind the tests of digits: ParseInt is asked. -/
theorem number_parse (s : ByteArray) (w : World) (hs : s.size ≤ 1000000) (hl : NumLaid w) (h0 : s.data.toList ≠ []) (hd : digB s.data.toList = true)
    (hh : ¬ (s.data.toList.head? = some 48 ∧ 1 < s.data.toList.length)) (hpos : 0 < s.size) (ht : ((s[0].toNat : Int) == 48) = false ∨ (((s[0].toNat : Int) == 48) = true ∧ ¬ 1 < s.size)) :
    Calls Tryz.prog 131 #[.string s] w fun e w' => NumEnd s e ∧ Below w.heap.size w w' := by
  have hg : (decide (s.data.toList ≠ []) && digB s.data.toList) = true := by rw [hd, decide_eq_true h0]; rfl
  have HS := Lib.hid hs; have HL := Lib.hid hl; have H0 := Lib.hid h0; have HD := Lib.hid hd; have HH := Lib.hid hh; have HG := Lib.hid hg
  clear hs hl h0 hd hh hg
  rcases ht with ht | ⟨ht, ht2⟩
  all_goals
    go_enter Tryz.func131, Tryz.ntmps131
    go_wp2_with (fail)
    refine (digits_walk s _ (by have := HS.out; unfold maxLen; omega)).mono ?_
    rw [HG.out]
    rintro e w1 ⟨rfl, hb⟩
    have HB := Lib.hid hb; clear hb
    go_wp2_with (fail)
    refine (parse_walk s HS.out H0.out HD.out _ (HL.out.below HB.out)).mono ?_
    rintro e w2 ⟨he, hb⟩
    have HB2 := Lib.hid (HB.out.trans (hb.mono HB.out.size)); clear hb
    rcases he with ⟨rfl, hmax⟩ | ⟨v, t, p, rfl, hgt⟩
    · by_cases hm : decVal s.data.toList ≤ 2147483647
      · have hr := num_yes (numB_of _ H0.out HD.out HH.out hm)
        have hmi : ¬ (2147483647 : Int) < (decVal s.data.toList : Nat) := by omega
        have HR := Lib.hid hr; clear hr hm
        have HR' : Hid (Ending.returned (.tuple #[.int .i64 (decVal s.data.toList : Nat), .bool true]) = .returned (.tuple #[.int .i64 (numV s.data.toList), .bool (numB s.data.toList)])) := Lib.hid (ret_num HR.out.1 HR.out.2)
        generalize (decVal s.data.toList : Int) = V at *
        go_wp2
        go_ret2
        exact ⟨HR'.out, HB2.out⟩
      · have hr := num_no (num_not fun h => hm h.2.2.2)
        have hmi : (2147483647 : Int) < (decVal s.data.toList : Nat) := by omega
        have HR := Lib.hid hr; clear hr hm
        generalize (decVal s.data.toList : Int) = V at *
        go_wp2
        go_ret2
        exact ⟨ret_num HR.out.1 HR.out.2, HB2.out⟩
    · have hr := num_no (num_not (l := s.data.toList) fun h => by have := h.2.2.2; omega)
      have HR := Lib.hid hr; clear hr hgt
      go_wp2
      go_ret2
      exact ⟨ret_num HR.out.1 HR.out.2, HB2.out⟩

theorem number_walk (s : ByteArray) (w : World) (hs : s.size ≤ 1000000) (hl : NumLaid w) :
    Calls Tryz.prog 131 #[.string s] w fun e w' => NumEnd s e ∧ Below w.heap.size w w' := by
  cases hg : (decide (s.data.toList ≠ []) && digB s.data.toList)
  · have hr := num_no (num_not (l := s.data.toList) fun ⟨h1, h2, _⟩ => by rw [decide_eq_true h1, h2] at hg; cases hg)
    have HG := Lib.hid hg; have HR := Lib.hid hr
    clear hg hr hl
    go_enter Tryz.func131, Tryz.ntmps131
    go_wp2_with (fail)
    refine (digits_walk s _ (by unfold maxLen; omega)).mono ?_
    rw [HG.out]
    rintro e w1 ⟨rfl, hb⟩
    have HB := Lib.hid hb; clear hb
    go_wp2
    go_ret2
    exact ⟨ret_num HR.out.1 HR.out.2, HB.out⟩
  · rw [Bool.and_eq_true, decide_eq_true_iff] at hg
    obtain ⟨h0, hd⟩ := hg
    have hpos : 0 < s.size := by
      rcases Nat.eq_zero_or_pos s.size with h | h
      · exact absurd (List.length_eq_zero_iff.1 h) h0
      · exact h
    have hhd : s.data.toList.head? = some s[0] := by
      rw [List.head?_eq_getElem?, List.getElem?_eq_getElem (by rw [size_list]; exact hpos)]
      rfl
    by_cases ha : s[0] = 48
    · have ht : ((s[0].toNat : Int) == 48) = true := by rw [ha]; rfl
      by_cases hlen : 1 < s.size
      · have hr := num_no (num_not (l := s.data.toList) fun ⟨_, _, h3, _⟩ => h3 ⟨by rw [hhd, ha], hlen⟩)
        have hgg : (decide (s.data.toList ≠ []) && digB s.data.toList) = true := by rw [hd, decide_eq_true h0]; rfl
        have HG := Lib.hid hgg; have HR := Lib.hid hr
        clear hgg hr hl hhd ha h0 hd
        go_enter Tryz.func131, Tryz.ntmps131
        go_wp2_with (fail)
        refine (digits_walk s _ (by unfold maxLen; omega)).mono ?_
        rw [HG.out]
        rintro e w1 ⟨rfl, hb⟩
        have HB := Lib.hid hb; clear hb
        go_wp2
        go_ret2
        exact ⟨ret_num HR.out.1 HR.out.2, HB.out⟩
      · exact number_parse s w hs hl h0 hd (fun h => hlen h.2) hpos (.inr ⟨ht, hlen⟩)
    · have hne : s[0].toNat ≠ 48 := fun e => ha (UInt8.toNat_inj.1 e)
      have ht : ((s[0].toNat : Int) == 48) = false := by rw [beq_eq_false_iff_ne]; omega
      exact number_parse s w hs hl h0 hd (fun h => ha (by have := h.1; rw [hhd] at this; exact Option.some.inj this)) hpos (.inl ht)
end Words
end Go.Proofs.YtadpjkehflokcaaGreatDoor
namespace Go.Proofs.YtadpjkehflokcaaGreatDoor
open Go.RowKit
namespace Words
open Chars (ret_i64 ret_bool cls el isin run spanI BytesAt Bytes bytes_new)

theorem digitsOf_walk (n : Int) (h0 : -9223372036854775808 ≤ n) (h1 : n ≤ 9223372036854775807) (w : World) (hl : NumLaid w) :
    Calls Tryz.prog 64 #[.int .i64 n] w fun e w' => e = .returned (.string ⟨(Lib.itoa n).toArray⟩) ∧ Below w.heap.size w w' := by
  have H0 := Lib.hid h0; have H1 := Lib.hid h1; have HL := Lib.hid hl.1
  clear h0 h1 hl
  go_enter Tryz.func64, Tryz.ntmps64
  go_wp2_with (fail)
  refine (Tryz.strconv_FormatInt_10 n H0.out H1.out _ HL.out).mono ?_
  rintro e w' ⟨rfl, k, os, rfl⟩
  have hb := Lib.below_grow w.heap.size w (Nat.le_refl _) k os
  have HB := Lib.hid hb; clear hb
  go_wp2
  go_ret
  exact ⟨rfl, HB.out⟩

end Words
end Go.Proofs.YtadpjkehflokcaaGreatDoor
namespace Go.Proofs.YtadpjkehflokcaaGreatDoor
open Go.RowKit
namespace Words
open Chars (ret_i64 ret_bool cls el isin run spanI BytesAt Bytes bytes_new)

/-- A text of one byte. -/
def oneB (x : Int) : ByteArray := ⟨#[UInt8.ofNat x.toNat]⟩
theorem byte_back (w : World) (x : Int) :
    (convert 22 9 (.slice (some ⟨w.heap.size, 0, none⟩) 1 1)).run Tryz.prog (w.alloc (.cells #[.int .u8 x] 5)) = .ok (.string (oneB x)) (w.alloc (.cells #[.int .u8 x] 5)) := by
  have := run_convert_bytes_arg (P := Tryz.prog) (w.alloc (.cells #[.int .u8 x] 5)) 22 5 Tryz.underlying22 Tryz.underlying5 w.heap.size 0 1 1 [x] rfl (fun i hi => by
    have : i = 0 := by omega
    subst this
    simp [go_sem]) 9 Tryz.underlying9
  exact this

theorem ret_str {a b : ByteArray} (h : a = b) : Ending.returned (.string a) = .returned (.string b) := by rw [h]
theorem dig_small (n : Int) (h0 : 0 ≤ n) (h : n < 10) : oneB (48 + n % 10) = ⟨(Lib.decDigits n.toNat).toArray⟩ := by
  unfold oneB
  rw [Lib.decDigits_one (by omega), show (48 + n % 10).toNat = 48 + n.toNat from by omega]
theorem dig_big (n : Int) (h : ¬ n < 10) : (⟨(Lib.decDigits (n / 10).toNat).toArray⟩ : ByteArray) ++ oneB (48 + n % 10) = ⟨(Lib.decDigits n.toNat).toArray⟩ := by
  apply bytes_ext
  rw [Lib.decDigits.eq_1 n.toNat, dif_neg (by omega)]
  unfold oneB
  rw [show (48 + n % 10).toNat = 48 + n.toNat % 10 from by omega, show (n / 10).toNat = n.toNat / 10 from by omega]
  simp [ByteArray.data_append]

theorem dig_add (n : Int) (h : ¬ n < 10) (h1 : n ≤ 9223372036854775807) (W : World) :
    (Op.stringOp .add (⟨(Lib.decDigits (n / 10).toNat).toArray⟩ : ByteArray) (oneB (48 + n % 10))).run Tryz.prog W = .ok (.string ⟨(Lib.decDigits n.toNat).toArray⟩) W := by
  rw [run_string_add_sum, dig_big n h]
  have e1 : (⟨(Lib.decDigits (n / 10).toNat).toArray⟩ : ByteArray).size = (Lib.decDigits (n / 10).toNat).length := by simp [ByteArray.size]
  have e2 : (oneB (48 + n % 10)).size = 1 := rfl
  have := Lib.nDigits_le20 (n / 10).toNat (by omega)
  rw [← Lib.decDigits_length] at this
  omega

set_option maxHeartbeats 400000 in
theorem refDigits_nat (k : Nat) : ∀ (n : Int) (w : World), n ≤ k → 0 ≤ n → n ≤ 9223372036854775807 →
    Calls Tryz.prog 74 #[.int .i64 n] w fun e w' => e = .returned (.string ⟨(Lib.decDigits n.toNat).toArray⟩) ∧ Below w.heap.size w w' := by
  induction k with
  | zero =>
    intro n w hk h0 h1
    have hbk := fun W => byte_back W (48 + n % 10)
    have hd := dig_small n h0 (by omega)
    have HD := Lib.hid hd; clear hd
    have hn : n < 10 := by omega
    go_enter Tryz.func74, Tryz.ntmps74
    go_wp2_with (fail)
    go_ret
    exact ⟨ret_str HD.out, (Below.refl _ _).alloc (Nat.le_refl _) _⟩
  | succ k ih =>
    intro n w hk h0 h1
    have hbk := fun W => byte_back W (48 + n % 10)
    by_cases hn : n < 10
    · have hd := dig_small n h0 hn
      have HD := Lib.hid hd
      clear hd ih
      go_enter Tryz.func74, Tryz.ntmps74
      go_wp2_with (fail)
      go_ret
      exact ⟨ret_str HD.out, (Below.refl _ _).alloc (Nat.le_refl _) _⟩
    · have hd := dig_add n hn h1
      have IH := Lib.hid ih
      clear ih
      go_enter Tryz.func74, Tryz.ntmps74
      go_wp2_with (fail)
      refine (IH.out (n / 10) _ (by omega) (by omega) (by omega)).mono ?_
      rintro e w' ⟨rfl, hb⟩
      have hb2 : Below w.heap.size w w' := ((Below.refl _ _).alloc (Nat.le_refl _) _).trans (hb.mono (by simp))
      have HB := Lib.hid hb2; clear hb hb2 hbk
      go_wp2
      go_ret
      exact ⟨rfl, HB.out⟩

/-! ### Of any int64 -/
def least : Int := -9223372036854775808
def leastText : ByteArray := ⟨#[45, 57, 50, 50, 51, 51, 55, 50, 48, 51, 54, 56, 53, 52, 55, 55, 53, 56, 48, 56]⟩
theorem least_itoa : leastText = ⟨(Lib.itoa least).toArray⟩ := by
  unfold least leastText Lib.itoa
  simp [Lib.decDigits]
theorem neg_add (n : Int) (h : n < 0) (h1 : -9223372036854775808 ≤ n) (W : World) :
    (Op.stringOp .add (⟨#[45]⟩ : ByteArray) (⟨(Lib.decDigits (-n).toNat).toArray⟩ : ByteArray)).run Tryz.prog W = .ok (.string ⟨(Lib.itoa n).toArray⟩) W := by
  rw [run_string_add_sum]
  · have : (⟨#[45]⟩ : ByteArray) ++ (⟨(Lib.decDigits (-n).toNat).toArray⟩ : ByteArray) = ⟨(Lib.itoa n).toArray⟩ := by
      apply bytes_ext
      unfold Lib.itoa
      rw [if_pos h, show n.natAbs = (-n).toNat from by omega]
      simp [ByteArray.data_append]
    rw [this]
  have e1 : (⟨(Lib.decDigits (-n).toNat).toArray⟩ : ByteArray).size = (Lib.decDigits (-n).toNat).length := by simp [ByteArray.size]
  have e2 : (⟨#[45]⟩ : ByteArray).size = 1 := rfl
  have := Lib.nDigits_le20 (-n).toNat (by omega)
  rw [← Lib.decDigits_length] at this
  omega

set_option maxHeartbeats 400000 in
theorem refDigits_walk (n : Int) (h0 : -9223372036854775808 ≤ n) (h1 : n ≤ 9223372036854775807) (w : World) :
    Calls Tryz.prog 74 #[.int .i64 n] w fun e w' => e = .returned (.string ⟨(Lib.itoa n).toArray⟩) ∧ Below w.heap.size w w' := by
  by_cases hn : n < 0
  · by_cases hm : n = least
    · have ht := least_itoa
      have hlt : least < 0 := by decide
      have HT := Lib.hid ht
      subst hm
      have e : (least == -9223372036854775808) = true := by decide
      clear ht h0 h1 hn
      go_enter Tryz.func74, Tryz.ntmps74
      go_wp2_with (fail)
      go_ret
      exact ⟨ret_str HT.out, Below.refl _ _⟩
    · have hd := neg_add n hn h0
      have hne : (n == -9223372036854775808) = false := by rw [beq_eq_false_iff_ne]; exact hm
      have hlo : -9223372036854775807 ≤ n := by unfold least at hm; omega
      have HM := Lib.hid hm
      clear hm h0
      go_enter Tryz.func74, Tryz.ntmps74
      go_wp2_with (fail)
      refine (refDigits_nat (-n).toNat (-n) _ (by omega) (by omega) (by omega)).mono ?_
      rintro e w' ⟨rfl, hb⟩
      have HB := Lib.hid hb; clear hb hne
      go_wp2
      go_ret
      exact ⟨rfl, HB.out⟩
  · refine (refDigits_nat n.toNat n w (by omega) (by omega) h1).mono ?_
    rintro e w' ⟨rfl, hb⟩
    refine ⟨ret_str ?_, hb⟩
    unfold Lib.itoa
    rw [if_neg hn]

/-! ### Numbers -/
def decB (u : Nat) : ByteArray := ⟨(Lib.decDigits u).toArray⟩
theorem decB_inj {u : Nat} {s : ByteArray} (e : decB u = s) : Lib.decDigits u = s.data.toList := by
  subst e
  unfold decB
  simp
theorem decVal_take (l : List UInt8) (k : Nat) (h : k < l.length) : decVal (l.take (k + 1)) = 10 * decVal (l.take k) + ((l[k]).toNat - 48) := by
  rw [List.take_succ_eq_append_getElem h, decVal_snoc]
theorem decVal_take_le (l : List UInt8) (k : Nat) : decVal (l.take k) ≤ decVal l := by
  conv => rhs; rw [← List.take_append_drop k l]
  unfold decVal
  rw [decFrom_append]
  exact decFrom_ge _ _
theorem get_str (s : ByteArray) (k : Nat) (h : k < s.size) : s.data.toList[k]'(by rw [size_list]; exact h) = s[k] := rfl
theorem digB_no (s : ByteArray) (k : Nat) (h : k < s.size) (hd : ¬ (48 ≤ s[k].toNat ∧ s[k].toNat ≤ 57)) : digB s.data.toList = false := by
  unfold digB
  refine decide_eq_false fun ha => hd ?_
  exact ha _ (List.getElem_mem (l := s.data.toList) (by rw [size_list]; exact h))
theorem digB_yes (s : ByteArray) (h : ∀ j (hj : j < s.size), 48 ≤ s[j].toNat ∧ s[j].toNat ≤ 57) : digB s.data.toList = true := by
  unfold digB
  refine decide_eq_true fun c hc => ?_
  obtain ⟨i, hi, e⟩ := List.getElem_of_mem hc
  rw [← e]
  exact h i (by rw [← size_list]; exact hi)

set_option maxHeartbeats 600000 in
theorem refNumber_walk (s : ByteArray) (w : World) (hs : s.size ≤ maxLen) :
    Calls Tryz.prog 114 #[.string s] w fun e w' => NumEnd s e ∧ Below w.heap.size w w' := by
  unfold maxLen at hs
  go_enter Tryz.func114, Tryz.ntmps114
  go_wp2
  go_loop [4, 5] (fun n i => ∃ k : Nat, k ≤ s.size ∧ i = .int .i64 k ∧ n = .int .i64 (decVal (s.data.toList.take k) : Nat) ∧ decVal (s.data.toList.take k) ≤ 21474836479 ∧ (∀ j (hj : j < s.size), j < k → 48 ≤ s[j].toNat ∧ s[j].toNat ≤ 57)) (fun _ i => s.size - (intOf i).toNat)
  case atStart => exact ⟨0, by omega, rfl, rfl, by simp [decVal, decFrom_nil], fun j hj h => by omega⟩
  case round =>
    obtain ⟨k, hk, rfl, rfl, hv, ha⟩ := hrel
    have HA := Lib.hid ha
    clear ha
    by_cases hlt : k < s.size
    · by_cases hd : 48 ≤ s[k].toNat ∧ s[k].toNat ≤ 57
      · by_cases hm : decVal (s.data.toList.take k) ≤ 2147483647
        · have hnx := decVal_take s.data.toList k (by rw [size_list]; exact hlt)
          rw [get_str s k hlt] at hnx
          have hval : ((decVal (s.data.toList.take (k + 1)) : Nat) : Int) = 10 * (decVal (s.data.toList.take k) : Nat) + ((s[k].toNat : Int) - 48) := by omega
          have hle : decVal (s.data.toList.take (k + 1)) ≤ 21474836479 := by omega
          have HV := Lib.hid hval; have HL := Lib.hid hle; have HD := Lib.hid hd
          obtain ⟨d1, d2⟩ := hd
          have d1' : (48 : Int) ≤ (s[k].toNat : Int) := by omega
          have d2' : (s[k].toNat : Int) ≤ 57 := by omega
          clear hnx hval hle hv
          go_wp2
          go_round
          case rel =>
            refine ⟨k + 1, by omega, by go_num, ?_, HL.out, fun j hj h => ?_⟩
            · rw [HV.out]
            · by_cases hjk : j = k
              · subst hjk; exact HD.out
              · exact HA.out j hj (by omega)
          case measure => simp [intOf]; omega
        · have hr := num_no (num_not (l := s.data.toList) fun h => by have := h.2.2.2; have := decVal_take_le s.data.toList k; omega)
          have HR := Lib.hid hr
          have hm' : (2147483647 : Int) < ((decVal (s.data.toList.take k) : Nat) : Int) := by omega
          obtain ⟨d1, d2⟩ := hd
          have d1' : (48 : Int) ≤ (s[k].toNat : Int) := by omega
          have d2' : (s[k].toNat : Int) ≤ 57 := by omega
          clear hr hm hv
          go_wp2
          go_ret2
          exact ⟨ret_num HR.out.1 HR.out.2, Below.refl _ _⟩
      · have hr := num_no (num_not (l := s.data.toList) fun h => by have := h.2.1; rw [digB_no s k hlt hd] at this; cases this)
        have HR := Lib.hid hr
        clear hr
        by_cases d1 : 48 ≤ s[k].toNat
        · have d1' : (48 : Int) ≤ (s[k].toNat : Int) := by omega
          have d2' : (57 : Int) < (s[k].toNat : Int) := by omega
          clear hd d1 hv
          go_wp2
          go_ret2
          exact ⟨ret_num HR.out.1 HR.out.2, Below.refl _ _⟩
        · have d1' : (s[k].toNat : Int) < 48 := by omega
          clear hd d1 hv
          go_wp2
          go_ret2
          exact ⟨ret_num HR.out.1 HR.out.2, Below.refl _ _⟩
    · obtain rfl : k = s.size := by omega
      have hdg := digB_yes s fun j hj => HA.out j hj hj
      have hall : s.data.toList.take s.size = s.data.toList := by rw [← size_list]; exact List.take_length
      rw [hall] at hv ⊢
      clear hall HA hk hlt
      by_cases h0 : s.size = 0
      · have hr := num_no (num_not (l := s.data.toList) fun h => h.1 (List.length_eq_zero_iff.1 h0))
        have HR := Lib.hid hr
        have h0' : ((s.size : Int) == 0) = true := by simp [h0]
        have H0 := Lib.hid h0
        clear hr h0
        go_wp2
        go_ret2
        exact ⟨ret_num HR.out.1 HR.out.2, Below.refl _ _⟩
      have h0' : ((s.size : Int) == 0) = false := by simpa using h0
      have hne : s.data.toList ≠ [] := fun e => h0 (by rw [← size_list, e]; rfl)
      by_cases hm : decVal s.data.toList ≤ 2147483647
      · have hiff := numB_iff s.data.toList hne hdg hm
        have hm' : ((decVal s.data.toList : Nat) : Int) ≤ 2147483647 := by omega
        have HI := Lib.hid hiff; have HM := Lib.hid hm; have HV := Lib.hid hv
        have hcv : ∀ W, Calls Tryz.prog 74 #[.int .i64 (decVal s.data.toList : Nat)] W fun e w' => e = .returned (.string (decB (decVal s.data.toList))) ∧ Below W.heap.size W w' := fun W => by
          have := refDigits_nat (decVal s.data.toList) (decVal s.data.toList : Nat) W (by omega) (by omega) (by omega)
          rw [Int.toNat_natCast] at this
          exact this
        have HC := Lib.hid hcv
        clear hiff hm hv hne hdg hcv
        go_wp2_with (fail)
        refine (HC.out _).mono ?_
        rintro e w' ⟨rfl, hb⟩
        have HB := Lib.hid hb; clear hb
        by_cases hq : Lib.decDigits (decVal s.data.toList) = s.data.toList
        · have he : ((decB (decVal s.data.toList)).toList == s.toList) = true := str_yes (bytes_ext (by unfold decB; simpa using hq))
          have hr := num_yes (HI.out.1 hq)
          have HR := Lib.hid hr; have HQ := Lib.hid hq; clear hr hq
          go_wp2
          go_ret2
          exact ⟨ret_num HR.out.1 HR.out.2, HB.out⟩
        · have he : ((decB (decVal s.data.toList)).toList == s.toList) = false := str_no (fun e => hq (decB_inj e))
          have hr := num_no (l := s.data.toList) (by rw [Bool.eq_false_iff]; exact fun h => hq (HI.out.2 h))
          have HR := Lib.hid hr; have HQ := Lib.hid hq; clear hr hq
          go_wp2
          go_ret2
          exact ⟨ret_num HR.out.1 HR.out.2, HB.out⟩
      · have hr := num_no (num_not (l := s.data.toList) fun h => hm h.2.2.2)
        have HR := Lib.hid hr
        have hm' : (2147483647 : Int) < ((decVal s.data.toList : Nat) : Int) := by omega
        clear hr hm hv hne
        go_wp2
        go_ret2
        exact ⟨ret_num HR.out.1 HR.out.2, Below.refl _ _⟩
end Words
end Go.Proofs.YtadpjkehflokcaaGreatDoor
namespace Go.Proofs.YtadpjkehflokcaaGreatDoor
open Go.RowKit Go.ChangeShapes
namespace Words

theorem powLaid_of {W : World} {r : List (String × DataW Unit)} (h : laidMet Tryz.prog (("internal/strconv.uint64pow10", Rows.laid_internal_strconv_uint64pow10) :: r) W) : Lib.TabIs Tryz.prog W "internal/strconv.uint64pow10" .u64 Lib.pow10Tab :=
  Lib.tabIs_of_head (zs := Lib.pow10Tab) (k := .u64) gPow (t := 168) (by kernel_rfl) Tryz.underlying168 Tryz.underlying158 (by kernel_rfl) (by kernel_rfl) h

theorem starErr : "*errors.errorString" = "*" ++ "errors.errorString" := by decide
theorem errRow : ∀ u, Tryz.prog.typeName? 3 u = some "*errors.errorString" → u = 190 := fun u h =>
  typeName_ptr_named (nm := "errors.errorString") (by rw [← starErr]; kernel_rfl) (by kernel_rfl) (by decide) u (by rw [← starErr]; exact h)
theorem rangeLaid_of {W : World} {r : List (String × DataW Unit)} (h : laidMet Tryz.prog (("strconv.ErrRange", Rows.laid_strconv_ErrRange) :: r) W) : ∃ tp p, W.var? Tryz.prog "strconv.ErrRange" = some #[.iface tp p] := by
  obtain ⟨a, s, hv, _⟩ := laid_sentinel h gRange (ti := 109) (by kernel_rfl) Tryz.underlying109 errRow Tryz.underlying190 Tryz.underlying192 rfl rfl Tryz.underlying9 (by kernel_rfl) (by kernel_rfl)
  exact ⟨_, _, hv⟩
end Words
end Go.Proofs.YtadpjkehflokcaaGreatDoor
