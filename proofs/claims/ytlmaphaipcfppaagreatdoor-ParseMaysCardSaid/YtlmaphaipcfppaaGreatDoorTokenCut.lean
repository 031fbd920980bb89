/- The walks of the program's skip, lead, sign, and of what kind a text is. -/
import Derived.Test.YtlmaphaipcfppaaGreatDoorTokenMath
import Derived.Test.YtlmaphaipcfppaaGreatDoorWordsAllW
import Derived.Test.YtlmaphaipcfppaaGreatDoorWordsNum
import Derived.Test.YtlmaphaipcfppaaGreatDoorWordsShelf
namespace Go.Proofs.YtlmaphaipcfppaaGreatDoor
open Go.RowKit
namespace Token
open Chars (ret_i64 ret_bool ret_u8 cls el isin run spanI BytesAt Bytes bytes_new)
open Words (KwLaid NumLaid Laid2 NumEnd numV numB kwN nameB exnB)

/-- A slice of bytes, as a walk sees it. -/
def BytesIn (w : World) (p : Option Addr) (n d : Nat) (xs : List Int) : Prop := xs.length = n ∧ n ≤ d ∧ d ≤ maxLen ∧ BytesAt w p xs ∧ Bytes xs
theorem BytesIn.below {w W : World} {p : Option Addr} {n d : Nat} {xs : List Int} (h : BytesIn w p n d xs) (hb : Below w.heap.size w W) : BytesIn W p n d xs :=
  ⟨h.1, h.2.1, h.2.2.1, h.2.2.2.1.below hb, h.2.2.2.2⟩
theorem BytesIn.len {w : World} {p : Option Addr} {n d : Nat} {xs : List Int} (h : BytesIn w p n d xs) : n ≤ 9223372036854775807 ∧ d ≤ 9223372036854775807 := by
  have h1 := h.2.1; have h2 := h.2.2.1
  unfold maxLen at h2
  omega

theorem span_at (ys xs : List Int) (k : Nat) (hk : k ≤ xs.length) : spanI ys xs k = (run ys (xs.drop k) : Nat) := by
  unfold spanI
  by_cases h : k < xs.length
  · rw [if_pos (by omega), Int.toNat_natCast]
  · rw [if_neg (by omega), List.drop_eq_nil_of_le (by omega)]
    rfl
theorem run_at_le (ys xs : List Int) (k : Nat) (hk : k ≤ xs.length) : k + run ys (xs.drop k) ≤ xs.length := by
  have := Chars.run_le ys (xs.drop k)
  rw [List.length_drop] at this
  omega

theorem skip_walk (p : Option Addr) (n d k : Nat) (xs : List Int) (w : World) (hb : BytesIn w p n d xs) (hk : k ≤ n) :
    Calls Tryz.prog 58 #[.slice p n d, .int .i64 k] w fun e w' => e = .returned (.int .i64 ((k + run [1] (xs.drop k) : Nat) : Int)) ∧ Below w.heap.size w w' := by
  have hl := hb.len
  have hs := span_at [1] xs k (by rw [hb.1]; exact hk)
  have hrl := run_at_le [1] xs k (by rw [hb.1]; exact hk)
  rw [hb.1] at hrl
  have HB := Lib.hid hb; have HS := Lib.hid hs
  clear hb hs
  go_enter Tryz.func58, Tryz.ntmps58
  go_wp2_with (fail)
  refine (Chars.span_walk p n d xs k _ 1 1 [1] _ HB.out.1 HB.out.2.1 HB.out.2.2.1 ?_ HB.out.2.2.2.2 rfl (by unfold maxLen; omega) ?_).mono ?_
  · exact HB.out.2.2.2.1.below ((Below.refl _ _).alloc (Nat.le_refl _) _)
  · exact bytes_new _ _ _ _ _ _ rfl rfl
  rintro e w' ⟨rfl, hb2⟩
  have HB2 := Lib.hid (((Below.refl _ _).alloc (Nat.le_refl _) _).trans (hb2.mono (by simp : w.heap.size ≤ _))); clear hb2
  rw [HS.out]
  go_wp2
  go_ret
  exact ⟨ret_i64 (by omega), HB2.out⟩

/-- The text of r bytes from the place k on. -/
theorem cut_text (w : World) (b o r c : Nat) (xs : List Int) (k : Nat) (hc : ∀ i, i < xs.length → w.cell? ⟨b, o + i, none⟩ = some (.int .u8 (xs.getD i 0))) (hr : k + r ≤ xs.length) :
    (convert 22 9 (.slice (some ⟨b, o + k, none⟩) r c)).run Tryz.prog w = .ok (.string (strOfNums ((xs.drop k).take r))) w := by
  refine run_convert_bytes_arg (P := Tryz.prog) w 22 5 Tryz.underlying22 Tryz.underlying5 b (o + k) r c ((xs.drop k).take r) (by rw [List.length_take, List.length_drop]; omega) (fun i hi => ?_) 9 Tryz.underlying9
  rw [show o + k + i = o + (k + i) from by omega, hc (k + i) (by omega)]
  rw [List.getD_eq_getElem?_getD, List.getD_eq_getElem?_getD, List.getElem?_take, if_pos hi, List.getElem?_drop]
theorem BytesAt.cells {w : World} {p : Option Addr} {xs : List Int} (h : BytesAt w p xs) (h0 : 0 < xs.length) : ∃ b o, p = some ⟨b, o, none⟩ ∧ ∀ i, i < xs.length → w.cell? ⟨b, o + i, none⟩ = some (.int .u8 (xs.getD i 0)) := by
  rcases h with rfl | h
  · simp at h0
  · exact h
theorem ret_str {a b : ByteArray} (h : a = b) : Ending.returned (.string a) = .returned (.string b) := by rw [h]

theorem lead_walk (p q : Option Addr) (n d k m d2 : Nat) (xs ys : List Int) (w : World) (hb : BytesIn w p n d xs) (hk : k < n) (hy : ys.length = m) (hm : m ≤ maxLen) (hq : BytesAt w q ys) :
    Calls Tryz.prog 78 #[.slice p n d, .int .i64 k, .slice q m d2] w fun e w' => e = .returned (.string (strOfNums ((xs.drop k).take (run ys (xs.drop k))))) ∧ Below w.heap.size w w' := by
  have hl := hb.len
  have hnd := hb.2.1
  have hs := span_at ys xs k (by rw [hb.1]; omega)
  have hrl := run_at_le ys xs k (by rw [hb.1]; omega)
  rw [hb.1] at hrl
  obtain ⟨b, o, rfl, hc⟩ := BytesAt.cells hb.2.2.2.1 (by rw [hb.1]; omega)
  have HB := Lib.hid hb; have HS := Lib.hid hs; have HY := Lib.hid hy; have HM := Lib.hid hm; have HQ := Lib.hid hq
  clear hb hs hy hm hq hc
  go_enter Tryz.func78, Tryz.ntmps78
  go_wp2_with (fail)
  refine (Chars.span_walk _ n d xs k q m d2 ys _ HB.out.1 HB.out.2.1 HB.out.2.2.1 HB.out.2.2.2.1 HB.out.2.2.2.2 HY.out HM.out HQ.out).mono ?_
  rintro e w' ⟨rfl, hb2⟩
  have hat := HB.out.2.2.2.1.below hb2
  obtain ⟨b', o', he, hc⟩ := BytesAt.cells hat (by rw [HB.out.1]; omega)
  obtain ⟨rfl, rfl⟩ : b = b' ∧ o = o' := by simpa using he
  have hcv := cut_text w' b o (run ys (xs.drop k)) (d - k) xs k hc (by rw [HB.out.1]; exact hrl)
  have HB2 := Lib.hid hb2; clear hb2 hat hc he
  rw [HS.out]
  obtain ⟨r, hr⟩ : ∃ r, r = run ys (xs.drop k) := ⟨_, rfl⟩
  rw [← hr] at hcv hrl ⊢
  have HR := Lib.hid hr
  clear HS hr
  go_wp2
  go_ret
  exact ⟨ret_str (by rw [HR.out]), HB2.out⟩

theorem ret_u8' {a b : Int} (h : a = b) : Ending.returned (.int .u8 a) = .returned (.int .u8 b) := by rw [h]
theorem digitsKind_walk (s : ByteArray) (w : World) (hs : s.size ≤ 1000000) (hl : NumLaid w) :
    Calls Tryz.prog 79 #[.string s] w fun e w' => e = .returned (.int .u8 (digK s)) ∧ Below w.heap.size w w' := by
  have HL := Lib.hid hl; clear hl
  cases hn : numB s.data.toList
  all_goals
    have hd : digK s = if numB s.data.toList = true then 1 else 0 := rfl
    rw [hn] at hd
    have HD := Lib.hid hd; have HN := Lib.hid hn
    clear hd hn
    go_enter Tryz.func79, Tryz.ntmps79
    go_wp2_with (fail)
    refine (Words.number_walk s _ hs HL.out).mono ?_
    rintro e w1 ⟨he, hb⟩
    unfold NumEnd at he
    rw [HN.out] at he
    subst he
    have HB := Lib.hid hb; clear hb
    generalize numV s.data.toList = V
    go_wp2
    go_ret
    exact ⟨ret_u8' HD.out.symm, HB.out⟩

theorem lettersKind_walk (s : ByteArray) (w : World) (hs : s.size ≤ maxLen) (hl : KwLaid w) :
    Calls Tryz.prog 80 #[.string s] w fun e w' => e = .returned (.int .u8 (letK s)) ∧ Below w.heap.size w w' := by
  have HL := Lib.hid hl; have HZ := Lib.hid hs
  clear hl hs
  by_cases hk : 0 < kwN s.data.toList
  · have hr : letK s = 4 := by unfold letK; rw [if_pos hk]
    have HR := Lib.hid hr; clear hr
    have hk' : (0 : Int) < (kwN s.data.toList : Nat) := by omega
    clear hk
    go_enter Tryz.func80, Tryz.ntmps80
    go_wp2_with (fail)
    refine (Words.keyword_walk s _ HL.out).mono ?_
    rintro e w1 ⟨rfl, rfl⟩
    go_wp2
    go_ret
    exact ⟨ret_u8' HR.out.symm, Below.refl _ _⟩
  have hk' : ¬ (0 : Int) < (kwN s.data.toList : Nat) := by omega
  cases hn : nameB s
  · cases he : exnB s
    all_goals
      have hr : letK s = if exnB s = true then 3 else 0 := by unfold letK; rw [if_neg hk, hn]; rfl
      rw [he] at hr
      have HR := Lib.hid hr; have HN := Lib.hid hn; have HE := Lib.hid he; have HK := Lib.hid hk
      clear hr hn he hk
      go_enter Tryz.func80, Tryz.ntmps80
      go_wp2_with (fail)
      refine (Words.keyword_walk s _ HL.out).mono ?_
      rintro e w1 ⟨rfl, rfl⟩
      go_wp2_with (fail)
      refine (Words.name_one s _ _ HZ.out HL.out).mono ?_
      rw [HN.out]
      rintro e w2 ⟨rfl, hb⟩
      have HB := Lib.hid hb; clear hb
      go_wp2_with (fail)
      refine (Words.exn_one s _ _ HZ.out).mono ?_
      rw [HE.out]
      rintro e w3 ⟨rfl, hb⟩
      have HB2 := Lib.hid (HB.out.trans (hb.mono HB.out.size)); clear hb
      go_wp2
      go_ret
      exact ⟨ret_u8' HR.out.symm, HB2.out⟩
  · have hr : letK s = 2 := by unfold letK; rw [if_neg hk, hn]; rfl
    have HR := Lib.hid hr; have HN := Lib.hid hn; have HK := Lib.hid hk
    clear hr hn hk
    go_enter Tryz.func80, Tryz.ntmps80
    go_wp2_with (fail)
    refine (Words.keyword_walk s _ HL.out).mono ?_
    rintro e w1 ⟨rfl, rfl⟩
    go_wp2_with (fail)
    refine (Words.name_one s _ _ HZ.out HL.out).mono ?_
    rw [HN.out]
    rintro e w2 ⟨rfl, hb⟩
    have HB := Lib.hid hb; clear hb
    go_wp2
    go_ret
    exact ⟨ret_u8' HR.out.symm, HB.out⟩

/-- Is a text of one byte one of the signs that stand alone? -/
theorem alone_iff (c : Int) (h0 : 0 ≤ c) (h1 : c ≤ 255) (h5 : cls c = 5) : (0 ≤ Lib.indexByte [40, 41, 44, 33, 61, 43, 45, 42, 60, 59] (UInt8.ofNat c.toNat)) ↔ ¬ (c = 58 ∨ c = 62) := by
  have hm : c ∈ [40, 41, 44, 33, 58, 61, 62, 43, 45, 42, 60, 59] := by
    unfold cls at h5
    split at h5
    · omega
    split at h5
    · omega
    split at h5
    · omega
    split at h5
    · omega
    split at h5
    · assumption
    · omega
  simp only [List.mem_cons, List.not_mem_nil, or_false] at hm
  rcases hm with rfl | rfl | rfl | rfl | rfl | rfl | rfl | rfl | rfl | rfl | rfl | rfl <;> decide +kernel

theorem signKind_one (c : UInt8) (w : World) :
    Calls Tryz.prog 82 #[.string ⟨#[c]⟩] w fun e w' => e = .returned (.int .u8 (if 0 ≤ Lib.indexByte [40, 41, 44, 33, 61, 43, 45, 42, 60, 59] c then 5 else 0)) ∧ w = w' := by
  have hcn := fun W => Tryz.strings_Contains_one ⟨#[40, 41, 44, 33, 61, 43, 45, 42, 60, 59]⟩ c W
  have hsz : (⟨#[c]⟩ : ByteArray).size = 1 := rfl
  have HC := Lib.hid hcn
  generalize hT : (⟨#[c]⟩ : ByteArray) = T at *
  have HT := Lib.hid hT
  clear hcn hT
  by_cases hi : 0 ≤ Lib.indexByte [40, 41, 44, 33, 61, 43, 45, 42, 60, 59] c
  · have hd : decide (0 ≤ Lib.indexByte [40, 41, 44, 33, 61, 43, 45, 42, 60, 59] c) = true := decide_eq_true hi
    rw [if_pos hi]
    have HD := Lib.hid hd
    clear hd hi
    go_enter Tryz.func82, Tryz.ntmps82
    go_wp2_with (fail)
    refine (HC.out _).mono ?_
    rintro e w1 ⟨rfl, hw⟩
    have e2 : decide (0 ≤ Lib.indexByte (⟨#[40, 41, 44, 33, 61, 43, 45, 42, 60, 59]⟩ : ByteArray).data.toList c) = true := HD.out
    rw [e2]
    obtain rfl := hw
    go_wp2
    go_ret
    exact ⟨rfl, rfl⟩
  · have hd : decide (0 ≤ Lib.indexByte [40, 41, 44, 33, 61, 43, 45, 42, 60, 59] c) = false := decide_eq_false hi
    rw [if_neg hi]
    have HD := Lib.hid hd
    clear hd hi
    go_enter Tryz.func82, Tryz.ntmps82
    go_wp2_with (fail)
    refine (HC.out _).mono ?_
    rintro e w1 ⟨rfl, hw⟩
    have e2 : decide (0 ≤ Lib.indexByte (⟨#[40, 41, 44, 33, 61, 43, 45, 42, 60, 59]⟩ : ByteArray).data.toList c) = false := HD.out
    rw [e2]
    obtain rfl := hw
    go_wp2
    go_ret
    exact ⟨rfl, rfl⟩
theorem signKind_two (s : ByteArray) (w : World) (hs : 1 < s.size) (hm : s.size ≤ 1000) :
    Calls Tryz.prog 82 #[.string s] w fun e w' => e = .returned (.int .u8 5) ∧ w = w' := by
  go_enter Tryz.func82, Tryz.ntmps82
  go_wp2
  go_ret
  exact ⟨rfl, rfl⟩

/-- What the sign at a place is held against. -/
theorem two_text (xs : List Int) (hr : Bytes xs) (h : 1 < xs.length) :
    ((strOfNums (xs.take 2)).toList == [58, 61]) = decide (el xs 0 = 58 ∧ el xs 1 = 61) ∧ ((strOfNums (xs.take 2)).toList == [61, 62]) = decide (el xs 0 = 61 ∧ el xs 1 = 62) := by
  match xs, h with
  | x :: y :: r, _ =>
    have hx := hr x (by simp)
    have hy := hr y (by simp)
    have e0 : el (x :: y :: r) 0 = x := rfl
    have e1 : el (x :: y :: r) 1 = y := rfl
    rw [e0, e1, Lib.toList_data, strOfNums_data]
    have k1 : ∀ c : Int, 0 ≤ c → c ≤ 255 → ∀ k : Nat, k < 256 → (UInt8.ofNat c.toNat = UInt8.ofNat k ↔ c = k) := Chars.byte_eq
    have a1 := k1 x hx.1 hx.2 58 (by omega); have a2 := k1 y hy.1 hy.2 61 (by omega); have a3 := k1 x hx.1 hx.2 61 (by omega); have a4 := k1 y hy.1 hy.2 62 (by omega)
    simp only [UInt8.reduceOfNat] at a1 a2 a3 a4
    constructor
    · rw [Bool.eq_iff_iff]
      simp [a1, a2]
    · rw [Bool.eq_iff_iff]
      simp [a3, a4]
theorem one_text (s : ByteArray) (h : s.size < 2) : (s.toList == [58, 61]) = false ∧ (s.toList == [61, 62]) = false := by
  rw [Lib.toList_data]
  have hl : s.data.toList.length < 2 := h
  constructor <;>
  · rw [beq_eq_false_iff_ne]
    intro e
    rw [e] at hl
    simp at hl

/-- How many bytes a sign has. -/
def signN (xs : List Int) : Nat := if two xs = true then 2 else 1
set_option maxRecDepth 10000 in
set_option maxHeartbeats 400000 in
theorem sign_walk (p : Option Addr) (n d k : Nat) (xs : List Int) (w : World) (hb : BytesIn w p n d xs) (hk : k < n) (hn : n ≤ 65536) :
    Calls Tryz.prog 81 #[.slice p n d, .int .i64 k] w fun e w' => e = .returned (.string (strOfNums ((xs.drop k).take (signN (xs.drop k))))) ∧ w = w' := by
  have hl := hb.len
  have hnd := hb.2.1
  obtain ⟨b, o, rfl, hc⟩ := BytesAt.cells hb.2.2.2.1 (by rw [hb.1]; omega)
  have hlen : (xs.drop k).length = n - k := by rw [List.length_drop, hb.1]
  have hby := hb.2.2.2.2.drop k
  by_cases h2 : k + 2 ≤ n
  · have hcv2 := cut_text w b o 2 (d - k) xs k hc (by rw [hb.1]; exact h2)
    have e2 : (2 : Nat) = (min ((k : Int) + 2) (n : Int)).toNat - k := by omega
    conv at hcv2 => lhs; rw [e2]
    clear e2
    have hcv1 := cut_text w b o 1 (d - k) xs k hc (by rw [hb.1]; omega)
    have ht := two_text (xs.drop k) hby (by omega)
    have htw : two (xs.drop k) = (decide (el (xs.drop k) 0 = 58 ∧ el (xs.drop k) 1 = 61) || decide (el (xs.drop k) 0 = 61 ∧ el (xs.drop k) 1 = 62)) := by
      unfold two
      rw [Bool.eq_iff_iff]
      simp only [decide_eq_true_eq, Bool.or_eq_true]
      exact ⟨fun h => h.2, fun h => ⟨by omega, h⟩⟩
    obtain ⟨T2, hT2⟩ : ∃ T, T = strOfNums ((xs.drop k).take 2) := ⟨_, rfl⟩
    rw [← hT2] at hcv2 ht
    have hsz : T2.size = 2 := by rw [hT2, strOfNums_size, List.length_take]; omega
    obtain ⟨hA, hB⟩ := ht
    cases h58 : decide (el (xs.drop k) 0 = 58 ∧ el (xs.drop k) 1 = 61)
    · rw [h58] at hA htw
      cases h61 : decide (el (xs.drop k) 0 = 61 ∧ el (xs.drop k) 1 = 62)
      · rw [h61] at hB htw
        have HT := Lib.hid htw; have HZ := Lib.hid hsz; have HT2 := Lib.hid hT2
        clear hb hc hlen hby hT2 htw h58 h61 hsz
        go_enter Tryz.func81, Tryz.ntmps81
        go_wp2
        go_ret
        exact ⟨ret_str (by unfold signN; rw [HT.out]; rfl), rfl⟩
      · rw [h61] at hB htw
        have HT := Lib.hid htw; have HZ := Lib.hid hsz; have HT2 := Lib.hid hT2
        clear hb hc hlen hby hT2 htw h58 h61 hsz
        go_enter Tryz.func81, Tryz.ntmps81
        go_wp2
        go_ret
        exact ⟨ret_str (by unfold signN; rw [HT.out, HT2.out]; rfl), rfl⟩
    · rw [h58] at hA htw
      have HT := Lib.hid htw; have HZ := Lib.hid hsz; have HT2 := Lib.hid hT2
      clear hb hc hlen hby hT2 htw h58 hsz hB
      go_enter Tryz.func81, Tryz.ntmps81
      go_wp2
      go_ret
      exact ⟨ret_str (by unfold signN; rw [HT.out, HT2.out]; rfl), rfl⟩
  · have hcv1 := cut_text w b o 1 (d - k) xs k hc (by rw [hb.1]; omega)
    have hcv0 := hcv1
    have e1 : (1 : Nat) = (min ((k : Int) + 2) (n : Int)).toNat - k := by omega
    conv at hcv0 => lhs; rw [e1]
    clear e1
    have htw : two (xs.drop k) = false := by unfold two; exact decide_eq_false fun h => by omega
    obtain ⟨T1, hT1⟩ : ∃ T, T = strOfNums ((xs.drop k).take 1) := ⟨_, rfl⟩
    rw [← hT1] at hcv1 hcv0
    have hsz : T1.size = 1 := by rw [hT1, strOfNums_size, List.length_take]; omega
    obtain ⟨hA, hB⟩ := one_text T1 (by omega)
    have HT := Lib.hid htw; have HT1 := Lib.hid hT1
    clear hb hc hlen hby hT1 htw hsz h2
    go_enter Tryz.func81, Tryz.ntmps81
    go_wp2
    go_ret
    exact ⟨ret_str (by unfold signN; rw [HT.out, HT1.out]; rfl), rfl⟩

/-! ### One token -/
/-- What cut comes to: of what is no token the kind alone is told. -/
def CutEnd (xs : List Int) (k : Nat) (e : Ending) : Prop := ∃ s : ByteArray, e = .returned (.agg #[.int .u8 (pieceK xs), .string s, .int .i64 k]) ∧ (pieceK xs ≠ 0 → s = strOfNums (xs.take (pieceN xs)))
theorem cutEnd_mk {xs : List Int} {k : Nat} {e : Ending} {K : Int} {s : ByteArray} (hK : K = pieceK xs) (hs : pieceK xs ≠ 0 → s = strOfNums (xs.take (pieceN xs))) (he : e = .returned (.agg #[.int .u8 K, .string s, .int .i64 k])) : CutEnd xs k e := by
  subst hK
  exact ⟨s, he, hs⟩

theorem str_size (xs : List Int) (r : Nat) : (strOfNums (xs.take r)).size ≤ xs.length := by
  rw [strOfNums_size, List.length_take]; omega

/-- A token's own block reads as it was laid. -/
theorem box_cells {w W : World} {t : TypeId} {v0 v1 v2 : Value} (hb : Below (w.alloc (.cells #[v0, v1, v2] t)).heap.size (w.alloc (.cells #[v0, v1, v2] t)) W) :
    (W.cell? ⟨w.heap.size, 0, none⟩ = some v0 ∧ W.cell? ⟨w.heap.size, 1, none⟩ = some v1 ∧ W.cell? ⟨w.heap.size, 2, none⟩ = some v2) ∧
    W.frozen? ⟨w.heap.size, 0, none⟩ = false ∧ W.frozen? ⟨w.heap.size, 1, none⟩ = false ∧ W.frozen? ⟨w.heap.size, 2, none⟩ = false := by
  have hlt : w.heap.size < (w.alloc (.cells #[v0, v1, v2] t)).heap.size := by simp
  have hc := fun j => hb.cell (p := ⟨w.heap.size, j, none⟩) hlt
  have hf := fun j => hb.frozen (p := ⟨w.heap.size, j, none⟩) hlt
  refine ⟨⟨(hc 0).trans ?_, (hc 1).trans ?_, (hc 2).trans ?_⟩, (hf 0).trans ?_, (hf 1).trans ?_, (hf 2).trans ?_⟩ <;> simp [go_sem]

set_option maxHeartbeats 1600000 in
theorem cut_walk (p : Option Addr) (n d k : Nat) (xs : List Int) (w : World) (hb : BytesIn w p n d xs) (hk : k < n) (hn : n ≤ 65536) (hl : Laid2 w) :
    Calls Tryz.prog 59 #[.slice p n d, .int .i64 k] w fun e w' => CutEnd (xs.drop k) k e ∧ Below w.heap.size w w' := by
  obtain ⟨b, o, rfl, hc⟩ := BytesAt.cells hb.2.2.2.1 (by rw [hb.1]; omega)
  have hck := hc k (by rw [hb.1]; exact hk)
  have hlen : (xs.drop k).length = n - k := by rw [List.length_drop, hb.1]
  have hel : el (xs.drop k) 0 = el xs k := by rw [Chars.el_drop, Nat.add_zero]
  have hck' : w.cell? ⟨b, o + k, none⟩ = some (.int .u8 (el xs k)) := hck
  have hca : ∀ O : Obj, (w.alloc O).cell? ⟨b, o + k, none⟩ = some (.int .u8 (el xs k)) := fun O => (World.cell?_alloc_lt w O ⟨b, o + k, none⟩ (World.block_lt_of_cell? w _ hck')).trans hck'
  have hcr := hb.2.2.2.2.el (k := k) (by rw [hb.1]; exact hk)
  have hne : xs.drop k ≠ [] := fun e => by rw [e] at hlen; simp at hlen; omega
  have hnl := hb.len.1
  have hsz := fun r => str_size (xs.drop k) r
  rw [hlen] at hsz
  have HB := Lib.hid hb; have HL := Lib.hid hl; have HN := Lib.hid hn; have HC0 := Lib.hid hcr.1; have HC1 := Lib.hid hcr.2
  have hbox : ∀ O : Obj, Below w.heap.size w (w.alloc O) := fun O => (Below.refl _ _).alloc (Nat.le_refl _) _
  have HBOX := Lib.hid hbox
  have HSZ := Lib.hid hsz
  have HEL := Lib.hid hel; have HNE := Lib.hid hne
  clear hb hl hcr hck hck' hc hbox hsz hel hne hlen
  by_cases h2 : cls (el xs k) = 2
  · have hK : pieceK (xs.drop k) = digK (strOfNums ((xs.drop k).take (run [2] (xs.drop k)))) := by unfold pieceK; rw [HEL.out, if_pos h2]
    have hN : pieceN (xs.drop k) = run [2] (xs.drop k) := by unfold pieceN; rw [HEL.out, if_pos h2]
    have HK := Lib.hid hK; have HPN := Lib.hid hN; have H2 := Lib.hid h2
    clear hK hN h2
    go_enter Tryz.func59, Tryz.ntmps59
    go_wp2_with (fail)
    refine (Chars.class_walk _ HC0.out HC1.out _).mono ?_
    rw [H2.out]
    rintro e w1 ⟨rfl, rfl⟩
    clear hca
    go_wp2_with (fail)
    refine (lead_walk _ _ n d k 1 1 xs [2] _ ?_ hk rfl (by unfold maxLen; omega) ?_).mono ?_
    · exact HB.out.below ((HBOX.out _).alloc (HBOX.out _).size _)
    · exact bytes_new _ _ _ _ _ _ (by simp) rfl
    rintro e w2 ⟨rfl, hb2⟩
    have HB2 := Lib.hid (((Below.refl _ _).alloc (Nat.le_refl _) _).trans (hb2.mono (by simp : (w.alloc _).heap.size ≤ _))); clear hb2
    obtain ⟨T, hT⟩ : ∃ T, T = strOfNums ((xs.drop k).take (run [2] (xs.drop k))) := ⟨_, rfl⟩
    have hTs : T.size ≤ 1000000 := by rw [hT]; have := HSZ.out (run [2] (xs.drop k)); have := HN.out; omega
    rw [← hT]
    have HT := Lib.hid hT; have HTS := Lib.hid hTs; clear hT hTs
    go_wp2_with (fail)
    refine (digitsKind_walk T _ HTS.out (HL.out.below ((HBOX.out _).trans (HB2.out.mono (HBOX.out _).size))).2).mono ?_
    rintro e w3 ⟨rfl, hb3⟩
    have HB3 := Lib.hid (HB2.out.trans (hb3.mono HB2.out.size)); clear hb3
    generalize hKK : digK T = KK
    have HKK := Lib.hid hKK; clear hKK
    have HBW := Lib.hid ((HBOX.out _).trans (HB3.out.mono (HBOX.out _).size))
    obtain ⟨⟨c0, c1, c2⟩, f0, f1, f2⟩ := box_cells HB3.out
    go_wp2
    refine bodyPost_ret (v := .agg #[.int .u8 KK, .string T, .int .i64 k]) (by simp [results, Tryz.results59, go_sem, c0, c1, c2]) rfl ⟨cutEnd_mk ?_ ?_ rfl, ((HBW.out.setCell (Nat.le_refl _) _).setCell (Nat.le_refl _) _).setCell (Nat.le_refl _) _⟩
    · rw [HK.out, ← HT.out, HKK.out]
    · intro _; rw [HT.out, HPN.out]
  by_cases h3 : cls (el xs k) = 3 ∨ cls (el xs k) = 4
  · have hK : pieceK (xs.drop k) = letK (strOfNums ((xs.drop k).take (run [3, 4, 2] (xs.drop k)))) := by unfold pieceK; rw [HEL.out, if_neg h2, if_pos h3]
    have hN : pieceN (xs.drop k) = run [3, 4, 2] (xs.drop k) := by unfold pieceN; rw [HEL.out, if_neg h2, if_pos h3]
    have HK := Lib.hid hK; have HPN := Lib.hid hN; have H2 := Lib.hid h2; have H3 := Lib.hid h3
    clear hK hN h2
    rcases h3 with h3 | h3
    all_goals
      go_enter Tryz.func59, Tryz.ntmps59
      go_wp2_with (fail)
      refine (Chars.class_walk _ HC0.out HC1.out _).mono ?_
      rw [h3]
      clear h3
      rintro e w1 ⟨rfl, rfl⟩
      clear hca
      go_wp2_with (fail)
      refine (lead_walk _ _ n d k 3 3 xs [3, 4, 2] _ ?_ hk rfl (by unfold maxLen; omega) ?_).mono ?_
      · exact HB.out.below ((HBOX.out _).alloc (HBOX.out _).size _)
      · exact bytes_new _ _ _ _ _ _ (by simp) rfl
      rintro e w2 ⟨rfl, hb2⟩
      have HB2 := Lib.hid (((Below.refl _ _).alloc (Nat.le_refl _) _).trans (hb2.mono (by simp : (w.alloc _).heap.size ≤ _))); clear hb2
      obtain ⟨T, hT⟩ : ∃ T, T = strOfNums ((xs.drop k).take (run [3, 4, 2] (xs.drop k))) := ⟨_, rfl⟩
      have hTs : T.size ≤ 1000000 := by rw [hT]; have := HSZ.out (run [3, 4, 2] (xs.drop k)); have := HN.out; omega
      rw [← hT]
      have HT := Lib.hid hT; have HTS := Lib.hid hTs; clear hT hTs
      go_wp2_with (fail)
      refine (lettersKind_walk T _ (by have := HTS.out; unfold maxLen; omega) (HL.out.below ((HBOX.out _).trans (HB2.out.mono (HBOX.out _).size))).1).mono ?_
      rintro e w3 ⟨rfl, hb3⟩
      have HB3 := Lib.hid (HB2.out.trans (hb3.mono HB2.out.size)); clear hb3
      generalize hKK : letK T = KK
      have HKK := Lib.hid hKK; clear hKK
      have HBW := Lib.hid ((HBOX.out _).trans (HB3.out.mono (HBOX.out _).size))
      obtain ⟨⟨c0, c1, c2⟩, f0, f1, f2⟩ := box_cells HB3.out
      go_wp2
      refine bodyPost_ret (v := .agg #[.int .u8 KK, .string T, .int .i64 k]) (by simp [results, Tryz.results59, go_sem, c0, c1, c2]) rfl ⟨cutEnd_mk ?_ ?_ rfl, ((HBW.out.setCell (Nat.le_refl _) _).setCell (Nat.le_refl _) _).setCell (Nat.le_refl _) _⟩
      · rw [HK.out, ← HT.out, HKK.out]
      · intro _; rw [HT.out, HPN.out]
  by_cases h5 : cls (el xs k) = 5
  · have hN : pieceN (xs.drop k) = signN (xs.drop k) := by unfold pieceN signN; rw [HEL.out, if_neg h2, if_neg h3]
    have hK : pieceK (xs.drop k) = if two (xs.drop k) = true then 5 else if el xs k = 58 ∨ el xs k = 62 then 0 else 5 := by unfold pieceK; rw [HEL.out, if_neg h2, if_neg h3, if_pos h5]
    have hsk : ∀ (T : ByteArray) (W : World), T = strOfNums ((xs.drop k).take (signN (xs.drop k))) → Calls Tryz.prog 82 #[.string T] W fun e w' => e = .returned (.int .u8 (pieceK (xs.drop k))) ∧ W = w' := by
      intro T W hT
      cases ht : two (xs.drop k)
      · rw [ht] at hK
        have hT1 : T = ⟨#[UInt8.ofNat (el xs k).toNat]⟩ := by
          rw [hT, show signN (xs.drop k) = 1 from by unfold signN; rw [ht]; rfl]
          have hne := HNE.out
          have hel := HEL.out
          cases hxs : xs.drop k with
          | nil => exact absurd hxs hne
          | cons x r =>
            rw [hxs] at hel
            have e : x = el xs k := hel
            rw [← e]
            rfl
        rw [hT1, hK]
        refine (signKind_one _ W).mono fun e w' ⟨he, hw⟩ => ⟨?_, hw⟩
        rw [he]
        refine ret_u8' ?_
        have ha := alone_iff (el xs k) HC0.out HC1.out h5
        by_cases h58 : el xs k = 58 ∨ el xs k = 62
        · rw [if_neg (fun h => (ha.1 h) h58), if_neg (by simp), if_pos h58]
        · rw [if_pos (ha.2 h58), if_neg (by simp), if_neg h58]
      · rw [ht] at hK
        rw [hK]
        have htl := two_len ht
        have hz : T.size = 2 := by
          rw [hT, strOfNums_size, List.length_take, show signN (xs.drop k) = 2 from by unfold signN; rw [ht]; rfl]
          omega
        exact signKind_two T W (by omega) (by omega)
    have HSK := Lib.hid hsk; have HPN := Lib.hid hN; have H5 := Lib.hid h5
    clear hK hN h2 h3 h5 hsk
    go_enter Tryz.func59, Tryz.ntmps59
    go_wp2_with (fail)
    refine (Chars.class_walk _ HC0.out HC1.out _).mono ?_
    rw [H5.out]
    rintro e w1 ⟨rfl, rfl⟩
    clear hca
    go_wp2_with (fail)
    refine (sign_walk _ n d k xs _ ?_ hk HN.out).mono ?_
    · exact HB.out.below (HBOX.out _)
    rintro e w2 ⟨rfl, rfl⟩
    obtain ⟨T, hT⟩ : ∃ T, T = strOfNums ((xs.drop k).take (signN (xs.drop k))) := ⟨_, rfl⟩
    rw [← hT]
    have HT := Lib.hid hT; clear hT
    go_wp2_with (fail)
    refine (HSK.out T _ HT.out).mono ?_
    rintro e w3 ⟨rfl, rfl⟩
    generalize hKK : pieceK (xs.drop k) = KK
    have HKK := Lib.hid hKK; clear hKK
    go_wp2
    refine bodyPost_ret (v := .agg #[.int .u8 KK, .string T, .int .i64 k]) (by simp [results, Tryz.results59, go_sem]) rfl ⟨cutEnd_mk HKK.out.symm ?_ rfl, ?_⟩
    · intro _; rw [HT.out, HPN.out]
    · first | exact HBOX.out _ | exact (((HBOX.out _).setCell (p := ⟨w.heap.size, 0, none⟩) (Nat.le_refl _) _).setCell (p := ⟨w.heap.size, 1, none⟩) (Nat.le_refl _) _).setCell (p := ⟨w.heap.size, 2, none⟩) (Nat.le_refl _) _
  · have hK : pieceK (xs.drop k) = 0 := by unfold pieceK; rw [HEL.out, if_neg h2, if_neg h3, if_neg h5]
    have HK := Lib.hid hK
    have hcl := Chars.cls_le (el xs k)
    have h01 : cls (el xs k) = 0 ∨ cls (el xs k) = 1 := by omega
    clear hK h2 h3 h5 hcl
    rcases h01 with h01 | h01
    all_goals
      have H01 := Lib.hid h01
      clear h01
      go_enter Tryz.func59, Tryz.ntmps59
      go_wp2_with (fail)
      refine (Chars.class_walk _ HC0.out HC1.out _).mono ?_
      rw [H01.out]
      rintro e w1 ⟨rfl, rfl⟩
      clear hca
      go_wp2
      refine bodyPost_ret (v := .agg #[.int .u8 0, .string ⟨#[]⟩, .int .i64 k]) (by simp [results, Tryz.results59, go_sem]) rfl ⟨cutEnd_mk HK.out.symm (fun h => absurd HK.out h) rfl, ?_⟩
      first | exact HBOX.out _ | exact (((HBOX.out _).setCell (p := ⟨w.heap.size, 0, none⟩) (Nat.le_refl _) _).setCell (p := ⟨w.heap.size, 1, none⟩) (Nat.le_refl _) _).setCell (p := ⟨w.heap.size, 2, none⟩) (Nat.le_refl _) _
end Token
end Go.Proofs.YtlmaphaipcfppaaGreatDoor
