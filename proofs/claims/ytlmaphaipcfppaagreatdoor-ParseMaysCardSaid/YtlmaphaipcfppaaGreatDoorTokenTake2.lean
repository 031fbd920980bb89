/- The walk of the document's sign at a place; any token. -/
import Derived.Test.YtlmaphaipcfppaaGreatDoorTokenTake
namespace Go.Proofs.YtlmaphaipcfppaaGreatDoor
open Go.RowKit
set_option linter.unusedVariables false
namespace Token
open Chars (ret_i64 ret_bool ret_u8 cls el isin run spanI BytesAt Bytes bytes_new)
open Words (KwLaid NumLaid Laid2 NumEnd numV numB kwN nameB exnB)

theorem el_next (xs : List Int) (k : Nat) : el (xs.drop k) 1 = el xs (k + 1) := Chars.el_drop xs k 1
/-- Where a sign of two bytes stands, or none. -/
theorem two_at (xs : List Int) (k n : Nat) (hn : xs.length = n) :
    two (xs.drop k) = decide (k + 1 < n ∧ ((el xs k = 58 ∧ el xs (k + 1) = 61) ∨ (el xs k = 61 ∧ el xs (k + 1) = 62))) := by
  unfold two
  rw [el_next, Chars.el_drop, Nat.add_zero, List.length_drop, hn, decide_eq_decide]
  exact ⟨fun h => ⟨by omega, h.2⟩, fun h => ⟨by omega, h.2⟩⟩

/-- What the walk of a sign is given of each way. -/
structure Ctx (p : Option Addr) (n d k b o : Nat) (xs : List Int) (w : World) : Prop where
  hp : p = some ⟨b, o, none⟩
  cell : ∀ W : World, Below w.heap.size w W → ∀ i, i < n → W.cell? ⟨b, o + i, none⟩ = some (.int .u8 (el xs i))
  one : ∀ W : World, Below w.heap.size w W → (convert 22 9 (.slice (some ⟨b, o + k, none⟩) 1 (d - k))).run Tryz.prog W = .ok (.string (strOfNums ((xs.drop k).take 1))) W
  twob : k + 1 < n → ∀ W : World, Below w.heap.size w W → (convert 22 9 (.slice (some ⟨b, o + k, none⟩) 2 (d - k))).run Tryz.prog W = .ok (.string (strOfNums ((xs.drop k).take 2))) W
  len : xs.length = n
  room : n ≤ d ∧ n ≤ 9223372036854775807 ∧ d ≤ 9223372036854775807
  byte : 0 ≤ el xs k ∧ el xs k ≤ 255
theorem ctx_of {p : Option Addr} {n d k : Nat} {xs : List Int} {w : World} (hb : BytesIn w p n d xs) (hk : k < n) : ∃ b o, Ctx p n d k b o xs w := by
  obtain ⟨b, o, hp, hc0⟩ := BytesAt.cells hb.2.2.2.1 (by rw [hb.1]; omega)
  have hc : ∀ W : World, Below w.heap.size w W → ∀ i, i < n → W.cell? ⟨b, o + i, none⟩ = some (.int .u8 (el xs i)) := fun W hW i hi =>
    (hW.cell (p := ⟨b, o + i, none⟩) (World.block_lt_of_cell? w _ (hc0 i (by rw [hb.1]; exact hi)))).trans (hc0 i (by rw [hb.1]; exact hi))
  exact ⟨b, o, hp, hc, fun W hW => cut_text W b o 1 (d - k) xs k (fun i hi => hc W hW i (by rw [← hb.1]; exact hi)) (by rw [hb.1]; omega),
    fun h W hW => cut_text W b o 2 (d - k) xs k (fun i hi => hc W hW i (by rw [← hb.1]; exact hi)) (by rw [hb.1]; omega), hb.1, ⟨hb.2.1, hb.len.1, hb.len.2⟩, hb.2.2.2.2.el (by rw [hb.1]; exact hk)⟩

set_option maxRecDepth 100000 in
set_option maxHeartbeats 6400000 in
/-- Up to the test of two bytes: there are two. -/
theorem take_two (p : Option Addr) (n d k b o : Nat) (xs : List Int) (w : World) (hx : Ctx p n d k b o xs w) (hk : k < n) (hn : n ≤ 65536) (h2 : isin [2] (cls (el xs k)) = false) (h3 : isin [3, 4] (cls (el xs k)) = false)
    (hk1 : k + 1 < n) (hc : (el xs k = 58 ∧ el xs (k + 1) = 61) ∨ (el xs k = 61 ∧ el xs (k + 1) = 62)) (hK : pieceK (xs.drop k) = 5) (hN : pieceN (xs.drop k) = 2) :
    Calls Tryz.prog 30 #[.slice p n d, .int .i64 k] w fun e w' => TakeEnd (xs.drop k) e ∧ Below w.heap.size w w' := by
  obtain rfl := hx.hp
  have hcv := hx.twob hk1
  have hcl := hx.cell
  have hroom := hx.room
  have hbyte := hx.byte
  have hni : (n : Int) ≤ 65536 := by omega
  obtain ⟨T, hT⟩ : ∃ T, T = strOfNums ((xs.drop k).take 2) := ⟨_, rfl⟩
  rw [← hT] at hcv
  have HT := Lib.hid hT; have HK := Lib.hid hK; have HN := Lib.hid hN; have HCV := Lib.hid hcv; have HCL := Lib.hid hcl; have H2 := Lib.hid h2; have H3 := Lib.hid h3; have B0 := Lib.hid hbyte.1; have B1 := Lib.hid hbyte.2
  have ck := hcl w (Below.refl _ _) k hk
  have HEL := Lib.hid hk1; have HKN := Lib.hid hk
  clear hT hK hN hcv hcl h2 h3 hbyte hx hn
  rcases hc with ⟨ha, hb⟩ | ⟨ha, hb⟩
  all_goals
    have HA := Lib.hid ha; have HBB := Lib.hid hb
    clear ha hb
    go_enter Tryz.func30, Tryz.ntmps30
    go_wp2_with (fail)
    refine (refDigit_walk _ B0.out B1.out _).mono ?_
    rw [H2.out]
    rintro e w1 ⟨rfl, rfl⟩
    clear ck
    go_wp2_with (fail)
    refine (refLetter_walk _ B0.out B1.out _).mono ?_
    rw [H3.out]
    rintro e w1 ⟨rfl, hb1⟩
    have hcv := HCV.out _ hb1
    have ck1 := HCL.out _ hb1 (k + 1) HEL.out
    have HB1 := Lib.hid hb1; clear hb1
    rw [HA.out]
    rw [HBB.out] at ck1
    go_wp2
    go_ret2
    exact ⟨takeEnd_mk HK.out.symm (fun _ => by rw [HT.out, HN.out]) rfl, HB1.out⟩

/-- What the tests on a byte come to. -/
structure Tests (c : Int) (a b e : Bool) : Prop where
  e58 : (c == 58) = a
  n58 : (c != 58) = !a
  e61 : (c == 61) = b
  e62 : (c == 62) = e
  n62 : (c != 62) = !e
theorem tests_58 : Tests 58 true false false := ⟨by decide, by decide, by decide, by decide, by decide⟩
theorem tests_61 : Tests 61 false true false := ⟨by decide, by decide, by decide, by decide, by decide⟩
theorem tests_62 : Tests 62 false false true := ⟨by decide, by decide, by decide, by decide, by decide⟩
theorem tests_none {c : Int} (h1 : c ≠ 58) (h2 : c ≠ 61) (h3 : c ≠ 62) : Tests c false false false := by
  refine ⟨?_, ?_, ?_, ?_, ?_⟩ <;> simpa using by assumption

/-- A sign of one byte, or none: told by the tests. -/
theorem take_ways (xs : List Int) (k n : Nat) (hn : xs.length = n) (hk : k < n) (h2 : ¬ cls (el xs k) = 2) (h3 : ¬ (cls (el xs k) = 3 ∨ cls (el xs k) = 4)) (ht : two (xs.drop k) = false) :
    ∃ a b e V, Tests (el xs k) a b e ∧ cls (el xs k) = V ∧ (V = 0 ∨ V = 1 ∨ V = 5) ∧ (a = true → k + 1 < n → (el xs (k + 1) == 61) = false) ∧ (b = true → k + 1 < n → (el xs (k + 1) == 62) = false) ∧
      ((a = true ∧ b = false ∧ e = false ∧ V = 5 ∧ pieceK (xs.drop k) = 0) ∨ (a = false ∧ b = true ∧ e = false ∧ V = 5 ∧ pieceK (xs.drop k) = 5 ∧ pieceN (xs.drop k) = 1) ∨ (a = false ∧ b = false ∧ e = true ∧ V = 5 ∧ pieceK (xs.drop k) = 0) ∨
        (a = false ∧ b = false ∧ e = false ∧ V = 5 ∧ pieceK (xs.drop k) = 5 ∧ pieceN (xs.drop k) = 1) ∨ (a = false ∧ b = false ∧ e = false ∧ (V = 0 ∨ V = 1) ∧ pieceK (xs.drop k) = 0)) := by
  have hel : el (xs.drop k) 0 = el xs k := by rw [Chars.el_drop, Nat.add_zero]
  have hN : pieceN (xs.drop k) = 1 := by unfold pieceN; rw [hel, if_neg h2, if_neg h3, ht]; rfl
  have hK : pieceK (xs.drop k) = if cls (el xs k) = 5 then (if el xs k = 58 ∨ el xs k = 62 then 0 else 5) else 0 := by unfold pieceK; rw [hel, if_neg h2, if_neg h3, ht]; rfl
  have hcl := Chars.cls_le (el xs k)
  rw [two_at xs k n hn] at ht
  have ht' := of_decide_eq_false ht
  by_cases c58 : el xs k = 58
  · rw [c58] at hK ht' ⊢
    refine ⟨true, false, false, 5, tests_58, by decide, by omega, fun _ h => ?_, fun h => (by cases h), .inl ⟨rfl, rfl, rfl, rfl, by rw [hK]; decide⟩⟩
    rw [beq_eq_false_iff_ne]
    exact fun e => ht' ⟨h, .inl ⟨rfl, e⟩⟩
  by_cases c61 : el xs k = 61
  · rw [c61] at hK ht' ⊢
    refine ⟨false, true, false, 5, tests_61, by decide, by omega, fun h => (by cases h), fun _ h => ?_, .inr (.inl ⟨rfl, rfl, rfl, rfl, by rw [hK]; decide, hN⟩)⟩
    rw [beq_eq_false_iff_ne]
    exact fun e => ht' ⟨h, .inr ⟨rfl, e⟩⟩
  by_cases c62 : el xs k = 62
  · rw [c62] at hK ⊢
    exact ⟨false, false, true, 5, tests_62, by decide, by omega, fun h => (by cases h), fun h => (by cases h), .inr (.inr (.inl ⟨rfl, rfl, rfl, rfl, by rw [hK]; decide⟩))⟩
  · refine ⟨false, false, false, cls (el xs k), tests_none c58 c61 c62, rfl, by omega, fun h => (by cases h), fun h => (by cases h), ?_⟩
    by_cases h5 : cls (el xs k) = 5
    · exact .inr (.inr (.inr (.inl ⟨rfl, rfl, rfl, h5, by rw [hK, if_pos h5, if_neg (by omega)], hN⟩)))
    · exact .inr (.inr (.inr (.inr ⟨rfl, rfl, rfl, by omega, by rw [hK, if_neg h5]⟩)))

set_option maxRecDepth 100000 in
set_option maxHeartbeats 12800000 in
theorem take_one (p : Option Addr) (n d k b o : Nat) (xs : List Int) (w : World) (hx : Ctx p n d k b o xs w) (hk : k < n) (hn : n ≤ 65536) (h2 : ¬ cls (el xs k) = 2) (h3 : ¬ (cls (el xs k) = 3 ∨ cls (el xs k) = 4)) (ht : two (xs.drop k) = false) :
    Calls Tryz.prog 30 #[.slice p n d, .int .i64 k] w fun e w' => TakeEnd (xs.drop k) e ∧ Below w.heap.size w w' := by
  obtain ⟨a, b', e', V, htests, hV, hVs, n61, n62, hways⟩ := take_ways xs k n hx.len hk h2 h3 ht
  obtain rfl := hx.hp
  have hi2 : isin [2] (cls (el xs k)) = false := by unfold isin; exact decide_eq_false fun h => h2 (by simpa using h)
  have hi3 : isin [3, 4] (cls (el xs k)) = false := by unfold isin; exact decide_eq_false fun h => h3 (by simpa using h)
  have hni : (n : Int) ≤ 65536 := by omega
  have hroom := hx.room
  have HX := Lib.hid hx
  have H2 := Lib.hid hi2; have H3 := Lib.hid hi3; have B0 := Lib.hid hx.byte.1; have B1 := Lib.hid hx.byte.2; have HV := Lib.hid hV
  have ck := hx.cell w (Below.refl _ _) k hk
  obtain ⟨T, hT⟩ : ∃ T, T = strOfNums ((xs.drop k).take 1) := ⟨_, rfl⟩
  have HT := Lib.hid hT
  obtain ⟨t1, t2, t3, t4, t5⟩ := htests
  clear hx hi2 hi3 hn h2 h3 ht hT hV
  by_cases hk1 : k + 1 < n
  all_goals
    rcases hways with ⟨rfl, rfl, rfl, rfl, hK⟩ | ⟨rfl, rfl, rfl, rfl, hK, hN⟩ | ⟨rfl, rfl, rfl, rfl, hK⟩ | ⟨rfl, rfl, rfl, rfl, hK, hN⟩ | ⟨rfl, rfl, rfl, rfl | rfl, hK⟩
    all_goals
      have HK := Lib.hid hK
      try have HN := Lib.hid hN
      try have M61 := Lib.hid (n61 rfl hk1)
      try have M62 := Lib.hid (n62 rfl hk1)
      clear hK hVs n61 n62
      try clear hN
      go_enter Tryz.func30, Tryz.ntmps30
      go_wp2_with (fail)
      refine (refDigit_walk _ B0.out B1.out _).mono ?_
      rw [H2.out]
      rintro e w1 ⟨rfl, rfl⟩
      clear ck
      go_wp2_with (fail)
      refine (refLetter_walk _ B0.out B1.out _).mono ?_
      rw [H3.out]
      rintro e w1 ⟨rfl, hb1⟩
      try have ck1 := HX.out.cell _ hb1 (k + 1) hk1
      try have m61 := M61.out
      try have m62 := M62.out
      have HB1 := Lib.hid hb1; clear hb1
      go_wp2_with (fail)
      refine (Chars.refClass_walk _ B0.out B1.out _).mono ?_
      rw [HV.out]
      rintro e w2 ⟨rfl, hb2⟩
      have HB2 := Lib.hid (HB1.out.trans (hb2.mono HB1.out.size))
      have hcv := HX.out.one _ HB2.out
      rw [← HT.out] at hcv
      clear hb2
      try clear ck1
      go_wp2
      go_ret2
      first
        | exact ⟨takeEnd_mk HK.out.symm (fun _ => by rw [HT.out, HN.out]) rfl, HB2.out⟩
        | exact ⟨takeEnd_mk HK.out.symm (fun h => absurd HK.out h) rfl, HB2.out⟩

/-- THE DOCUMENT's TOKEN AT A PLACE. -/
theorem take_walk (p : Option Addr) (n d k : Nat) (xs : List Int) (w : World) (hb : BytesIn w p n d xs) (hk : k < n) (hn : n ≤ 65536) :
    Calls Tryz.prog 30 #[.slice p n d, .int .i64 k] w fun e w' => TakeEnd (xs.drop k) e ∧ Below w.heap.size w w' := by
  by_cases h2 : cls (el xs k) = 2
  · exact take_digit p n d k xs w hb hk hn h2
  by_cases h3 : cls (el xs k) = 3 ∨ cls (el xs k) = 4
  · exact take_letter p n d k xs w hb hk hn h2 h3
  obtain ⟨b, o, hx⟩ := ctx_of hb hk
  cases ht : two (xs.drop k)
  · exact take_one p n d k b o xs w hx hk hn h2 h3 ht
  · have ht' := ht
    rw [two_at xs k n hb.1] at ht'
    obtain ⟨hk1, hc⟩ := of_decide_eq_true ht'
    have hel : el (xs.drop k) 0 = el xs k := by rw [Chars.el_drop, Nat.add_zero]
    have h5 : cls (el xs k) = 5 := by rcases hc with ⟨h, _⟩ | ⟨h, _⟩ <;> rw [h] <;> decide
    refine take_two p n d k b o xs w hx hk hn ?_ ?_ hk1 hc ?_ ?_
    · rw [h5]; decide
    · rw [h5]; decide
    · unfold pieceK; rw [hel, if_neg h2, if_neg h3, if_pos h5, ht]; rfl
    · unfold pieceN; rw [hel, if_neg h2, if_neg h3, ht]; rfl
end Token
end Go.Proofs.YtlmaphaipcfppaaGreatDoor
