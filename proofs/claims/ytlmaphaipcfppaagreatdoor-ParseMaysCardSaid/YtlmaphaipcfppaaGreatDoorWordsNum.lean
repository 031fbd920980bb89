/- The walks of the program's numbers and digits. -/
import Derived.Test.YtlmaphaipcfppaaGreatDoorWordsDigs
import Derived.Test.YtlmaphaipcfppaaGreatDoorWordsShelf
import Derived.Lib.AppendIntMem
namespace Go.Proofs.YtlmaphaipcfppaaGreatDoor
open Go.RowKit
namespace Words
open Chars (ret_i64 ret_bool cls el isin run spanI BytesAt Bytes bytes_new)

/-- What strconv's own variables hold. -/
def NumLaid (w : World) : Prop := Lib.TabIs Tryz.prog w "internal/strconv.uint64pow10" .u64 Lib.pow10Tab ∧ ∃ tp p, w.var? Tryz.prog "strconv.ErrRange" = some #[.iface tp p]
theorem gPow : Tryz.prog.globalNamed "internal/strconv.uint64pow10" = some 4 := by kernel_rfl
theorem gRange : Tryz.prog.globalNamed "strconv.ErrRange" = some 3 := by kernel_rfl
theorem NumLaid.below {w W : World} (h : NumLaid w) (hb : Below w.heap.size w W) : NumLaid W := by
  obtain ⟨h1, tp, p, h2⟩ := h
  exact ⟨Go.Joins.tab_stays gPow h1 hb (Nat.le_refl _), tp, p, Go.Joins.var_stays gRange h2 hb (Nat.le_refl _)⟩

/-- The variables that layer 2 reads. -/
def Laid2 (w : World) : Prop := KwLaid w ∧ NumLaid w
theorem Laid2.below {w W : World} (h : Laid2 w) (hb : Below w.heap.size w W) : Laid2 W := ⟨h.1.below hb, h.2.below hb⟩

theorem parse_walk (s : ByteArray) (hs : s.size ≤ 1000000) (h0 : s.data.toList ≠ []) (hd : digB s.data.toList = true) (w : World) (hl : NumLaid w) :
    Calls Tryz.prog 104 #[.string s, .int .i64 10, .int .i64 64] w fun e w' => ((e = .returned (.tuple #[.int .i64 (decVal s.data.toList : Nat), .nilIface]) ∧ (decVal s.data.toList : Int) ≤ 9223372036854775807) ∨ (∃ v t p, e = .returned (.tuple #[.int .i64 v, .iface t (.pointer (some p))]) ∧ 2147483647 < decVal s.data.toList)) ∧ Below w.heap.size w w' := by
  obtain ⟨_, tp, p, hv⟩ := hl
  rcases parse_int s.data.toList h0 hd with ⟨h, hlt⟩ | ⟨h, hge⟩
  · refine (Tryz.strconv_ParseInt_10_at64_ok s (by omega) _ h w).mono ?_
    rintro e w' ⟨rfl, hw⟩
    refine ⟨.inl ⟨rfl, by omega⟩, ?_⟩
    rcases hw with rfl | ⟨t, rfl⟩
    · exact Below.refl _ _
    · exact Go.Joins.below_bytesWorld _ _ _ _ (Nat.le_refl _)
  · refine (Tryz.strconv_ParseInt_10_at64_range_var s (by omega) h tp p w hv).mono ?_
    rintro e w' ⟨N, rfl, _, _, hb⟩
    exact ⟨.inr ⟨_, _, _, rfl, by omega⟩, hb⟩

theorem ret_num {v v' : Int} {b b' : Bool} (h : v = v') (h' : b = b') : Ending.returned (.tuple #[.int .i64 v, .bool b]) = .returned (.tuple #[.int .i64 v', .bool b']) := by rw [h, h']

theorem num_no {l : List UInt8} (h : numB l = false) : 0 = numV l ∧ false = numB l := by
  unfold numV
  rw [h]
  exact ⟨rfl, rfl⟩
theorem num_yes {l : List UInt8} (h : numB l = true) : (decVal l : Int) = numV l ∧ true = numB l := by
  unfold numV
  rw [h]
  exact ⟨rfl, rfl⟩
theorem num_not {l : List UInt8} (h : ¬ (l ≠ [] ∧ digB l = true ∧ ¬ (l.head? = some 48 ∧ 1 < l.length) ∧ decVal l ≤ 2147483647)) : numB l = false := by
  rw [Bool.eq_false_iff]
  exact fun hn => h (numB_true hn)

/-- What Number comes to. -/
def NumEnd (s : ByteArray) (e : Ending) : Prop := e = .returned (.tuple #[.int .i64 (numV s.data.toList), .bool (numB s.data.toList)])

/-- Behind the tests of digits: ParseInt is asked. -/
theorem number_parse (s : ByteArray) (w : World) (hs : s.size ≤ 1000000) (hl : NumLaid w) (h0 : s.data.toList ≠ []) (hd : digB s.data.toList = true)
    (hh : ¬ (s.data.toList.head? = some 48 ∧ 1 < s.data.toList.length)) (hpos : 0 < s.size) (ht : ((s[0].toNat : Int) == 48) = false ∨ (((s[0].toNat : Int) == 48) = true ∧ ¬ 1 < s.size)) :
    Calls Tryz.prog 93 #[.string s] w fun e w' => NumEnd s e ∧ Below w.heap.size w w' := by
  have hg : (decide (s.data.toList ≠ []) && digB s.data.toList) = true := by rw [hd, decide_eq_true h0]; rfl
  have HS := Lib.hid hs; have HL := Lib.hid hl; have H0 := Lib.hid h0; have HD := Lib.hid hd; have HH := Lib.hid hh; have HG := Lib.hid hg
  clear hs hl h0 hd hh hg
  rcases ht with ht | ⟨ht, ht2⟩
  all_goals
    go_enter Tryz.func93, Tryz.ntmps93
    go_wp2_with (fail)
    refine (digits_walk s _ (by have := HS.out; unfold maxLen; omega)).mono ?_
    rw [HG.out]
    rintro e w1 ⟨rfl, hb⟩
    have HB := Lib.hid hb; clear hb
    go_wp2_with (fail)
    refine (parse_walk s HS.out H0.out HD.out _ (HL.out.below HB.out)).mono ?_
    rintro e w2 ⟨he, hb⟩
    have HB2 := Lib.hid (HB.out.trans (hb.mono HB.out.size)); clear hb
    rcases he with ⟨rfl, hmax⟩ | ⟨v, t, p, rfl, hgt⟩
    · by_cases hm : decVal s.data.toList ≤ 2147483647
      · have hr := num_yes (numB_of _ H0.out HD.out HH.out hm)
        have hmi : ¬ (2147483647 : Int) < (decVal s.data.toList : Nat) := by omega
        have HR := Lib.hid hr; clear hr hm
        have HR' : Hid (Ending.returned (.tuple #[.int .i64 (decVal s.data.toList : Nat), .bool true]) = .returned (.tuple #[.int .i64 (numV s.data.toList), .bool (numB s.data.toList)])) := Lib.hid (ret_num HR.out.1 HR.out.2)
        generalize (decVal s.data.toList : Int) = V at *
        go_wp2
        go_ret2
        exact ⟨HR'.out, HB2.out⟩
      · have hr := num_no (num_not fun h => hm h.2.2.2)
        have hmi : (2147483647 : Int) < (decVal s.data.toList : Nat) := by omega
        have HR := Lib.hid hr; clear hr hm
        generalize (decVal s.data.toList : Int) = V at *
        go_wp2
        go_ret2
        exact ⟨ret_num HR.out.1 HR.out.2, HB2.out⟩
    · have hr := num_no (num_not (l := s.data.toList) fun h => by have := h.2.2.2; omega)
      have HR := Lib.hid hr; clear hr hgt
      go_wp2
      go_ret2
      exact ⟨ret_num HR.out.1 HR.out.2, HB2.out⟩

theorem number_walk (s : ByteArray) (w : World) (hs : s.size ≤ 1000000) (hl : NumLaid w) :
    Calls Tryz.prog 93 #[.string s] w fun e w' => NumEnd s e ∧ Below w.heap.size w w' := by
  cases hg : (decide (s.data.toList ≠ []) && digB s.data.toList)
  · have hr := num_no (num_not (l := s.data.toList) fun ⟨h1, h2, _⟩ => by rw [decide_eq_true h1, h2] at hg; cases hg)
    have HG := Lib.hid hg; have HR := Lib.hid hr
    clear hg hr hl
    go_enter Tryz.func93, Tryz.ntmps93
    go_wp2_with (fail)
    refine (digits_walk s _ (by unfold maxLen; omega)).mono ?_
    rw [HG.out]
    rintro e w1 ⟨rfl, hb⟩
    have HB := Lib.hid hb; clear hb
    go_wp2
    go_ret2
    exact ⟨ret_num HR.out.1 HR.out.2, HB.out⟩
  · rw [Bool.and_eq_true, decide_eq_true_iff] at hg
    obtain ⟨h0, hd⟩ := hg
    have hpos : 0 < s.size := by
      rcases Nat.eq_zero_or_pos s.size with h | h
      · exact absurd (List.length_eq_zero_iff.1 h) h0
      · exact h
    have hhd : s.data.toList.head? = some s[0] := by
      rw [List.head?_eq_getElem?, List.getElem?_eq_getElem (by rw [size_list]; exact hpos)]
      rfl
    by_cases ha : s[0] = 48
    · have ht : ((s[0].toNat : Int) == 48) = true := by rw [ha]; rfl
      by_cases hlen : 1 < s.size
      · have hr := num_no (num_not (l := s.data.toList) fun ⟨_, _, h3, _⟩ => h3 ⟨by rw [hhd, ha], hlen⟩)
        have hgg : (decide (s.data.toList ≠ []) && digB s.data.toList) = true := by rw [hd, decide_eq_true h0]; rfl
        have HG := Lib.hid hgg; have HR := Lib.hid hr
        clear hgg hr hl hhd ha h0 hd
        go_enter Tryz.func93, Tryz.ntmps93
        go_wp2_with (fail)
        refine (digits_walk s _ (by unfold maxLen; omega)).mono ?_
        rw [HG.out]
        rintro e w1 ⟨rfl, hb⟩
        have HB := Lib.hid hb; clear hb
        go_wp2
        go_ret2
        exact ⟨ret_num HR.out.1 HR.out.2, HB.out⟩
      · exact number_parse s w hs hl h0 hd (fun h => hlen h.2) hpos (.inr ⟨ht, hlen⟩)
    · have hne : s[0].toNat ≠ 48 := fun e => ha (UInt8.toNat_inj.1 e)
      have ht : ((s[0].toNat : Int) == 48) = false := by rw [beq_eq_false_iff_ne]; omega
      exact number_parse s w hs hl h0 hd (fun h => ha (by have := h.1; rw [hhd] at this; exact Option.some.inj this)) hpos (.inl ht)
end Words
end Go.Proofs.YtlmaphaipcfppaaGreatDoor
