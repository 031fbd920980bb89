/- The walk of layer 3's statement on long texts. -/
import Derived.Test.YtklibniadcpjhaaDoorTokenAwake
namespace Go.Proofs.YtklibniadcpjhaaDoor
open Go.RowKit
set_option linter.unusedVariables false
namespace Token
open Chars (ret_i64 ret_bool ret_u8 cls el isin run spanI BytesAt Bytes bytes_new)
open Words (KwLaid NumLaid Laid2)

theorem lex_blanks (xs : List Int) (a : Nat) (h : ∀ x ∈ xs, cls x = 1) : lex xs a = .inr [] := by
  have hr : run [1] xs = xs.length := (Words.run_iff [1] xs).2 fun x hx => by rw [h x hx]; rfl
  rw [lex_skip _ xs a hr, List.drop_length, lex_nil]

/-- A row of n bytes of which k have been made blanks. -/
def blk (k n : Nat) : List Value := List.replicate k (.int .u8 32) ++ List.replicate (n - k) (.int .u8 0)
theorem blk_step (k n : Nat) (hk : k < n) : (blk k n).set k (.int .u8 32) = blk (k + 1) n := by
  unfold blk
  rw [List.set_append_right _ _ (by simp), List.length_replicate, Nat.sub_self, show n - k = (n - (k + 1)) + 1 from by omega, List.replicate_succ, List.set_cons_zero, List.replicate_succ']
  simp
theorem blk_at (k n : Nat) (hk : k < n) : (blk k n)[k]? = some (.int .u8 0) := by
  unfold blk
  rw [List.getElem?_append_right (by simp), List.length_replicate, Nat.sub_self, List.getElem?_replicate, if_pos (by omega)]
theorem blk_zero (n : Nat) : blk 0 n = List.replicate n (.int .u8 0) := by simp [blk]
theorem blk_all (n : Nat) : blk n n = List.replicate n (.int .u8 32) := by simp [blk]
theorem infoByte : (Tryd.prog.info? 5).map (fun i => (i.zero, i.size, i.bytes)) = some (some (.int .u8 0), 1, 1) := by kernel_rfl
theorem blk_bytes {w : World} {B e g n : Nat} (h : w.ownsRow B e 1 (.slice (some ⟨g, 0, none⟩) n n) n (blk n n)) (hm : n ≤ maxLen) : BytesIn w (some ⟨g, 0, none⟩) n n (List.replicate n 32) := by
  refine ⟨by simp, Nat.le_refl _, hm, .inr ⟨g, 0, rfl, fun i hi => ?_⟩, fun x hx => ?_⟩
  · rw [List.length_replicate] at hi
    rw [Nat.zero_add, h.cellAt i (by omega), blk_all, List.getElem?_replicate, if_pos hi, List.getD_eq_getElem?_getD, List.getElem?_replicate, if_pos hi]
    rfl
  · have := List.eq_of_mem_replicate hx
    omega

set_option maxRecDepth 10000 in
set_option maxHeartbeats 3200000 in
theorem tokenLong_walk (c : Int) (h0 : 0 ≤ c) (h1 : c ≤ 255) (w : World) (hl : Laid2 w) :
    Calls Tryd.prog 6 #[.int .u8 c] w fun e w' => e = .returned (.bool true) ∧ Below w.heap.size w w' := by
  obtain ⟨i0, hi, hz0, hz1, hz2⟩ := info_parts infoByte
  have HI := Lib.hid hi; have HZ0 := Lib.hid hz0; have HZ1 := Lib.hid hz1; have HZ2 := Lib.hid hz2
  have HL := Lib.hid hl
  obtain ⟨N, hN⟩ : ∃ N : Nat, (N : Int) = 65534 + c % 5 := ⟨(65534 + c % 5).toNat, by omega⟩
  have hlo : (65534 : Int) ≤ (N : Int) := by omega
  have hhi : (N : Int) ≤ 65538 := by omega
  have HLO := Lib.hid hlo; have HHI := Lib.hid hhi
  have HN := Lib.hid hN
  clear hi hz0 hz1 hz2 hl hN hlo hhi
  go_enter Tryd.func6, Tryd.ntmps6
  go_wp2_with (at_make; refine wpList_make_full _ rfl (.tmp 11) (.tmp 11) 22 rfl w.heap.size 5 i0 (.int .u8 0) 1 Tryd.underlying22 HI.out HZ0.out HZ1.out .i64 .i64 _ _ N rfl rfl HN.out.symm HN.out.symm (by rw [HZ2.out]; have := HHI.out; omega) (by have := HHI.out; unfold maxLen; omega) (Nat.le_refl _) ?_; intro w1 hown1 hgrow1; have HO1 := Lib.hid hown1; have HB1 := Lib.hid ((Below.refl w.heap.size w).grown hgrow1 (Nat.le_refl _) (fun q hq => by cases hq)); clear hown1 hgrow1)
  go_loopw [4] (fun i wr => ∃ k : Nat, k ≤ N ∧ i = .int .i64 k ∧ wr.ownsRow w.heap.size 5 1 (.slice (some ⟨w.heap.size, 0, none⟩) N N) N (blk k N) ∧ Below w.heap.size w wr) (fun i _ => N - (intOf i).toNat)
  case atStart =>
    refine ⟨0, Nat.zero_le _, rfl, ?_, HB1.out⟩
    rw [blk_zero]
    have := HO1.out
    rw [Nat.mul_one] at this
    have e : (madeCells (Value.int .u8 0).cells N).toList = List.replicate N (.int .u8 0) := toList_madeCells_one _ _
    rw [e] at this
    exact this
  case round =>
    obtain ⟨k, hk, rfl, hown, hb⟩ := hrel
    have HO := Lib.hid hown; have HB := Lib.hid hb
    clear hown hb
    have hhi : (N : Int) ≤ 65538 := HHI.out
    by_cases hlt : k < N
    · have hoc := HO.out.cellAt k (by omega)
      rw [blk_at k N hlt] at hoc
      have hof := HO.out.frozenAt k
      go_wp2
      go_roundw
      case rel =>
        refine ⟨k + 1, by omega, by go_num, ?_, HB.out.setCell (p := ⟨w.heap.size, k, none⟩) (Nat.le_refl _) _⟩
        rw [← blk_step k N hlt]
        exact (HO.out.stored k _).1
      case measure => simp [intOf]; omega
    · obtain rfl : k = N := by omega
      have hby := blk_bytes HO.out (by have := HHI.out; unfold maxLen; omega)
      have hlx := lex_blanks (List.replicate k 32) 0 (fun x hx => by rw [List.eq_of_mem_replicate hx]; decide)
      have HBY := Lib.hid hby; have HLX := Lib.hid hlx
      clear hby hlx
      go_wp2_with (fail)
      refine (lex_walk _ k k (List.replicate k 32) _ HBY.out (HL.out.below HB.out)).mono ?_
      rintro e w2 ⟨hb2, hc2⟩
      have HB2 := Lib.hid (HB.out.trans (hb2.mono HB.out.size)); clear hb2
      rw [List.length_replicate] at hc2
      rcases hc2 with ⟨h, q, c2, rfl⟩ | ⟨_, q, c2, j, h, rfl⟩ | ⟨hle, ts, g, c2, h, rfl, hat⟩
      · have hgt : (65536 : Int) < (k : Int) := by omega
        clear h
        go_wp2_with (fail)
        refine (awake_walk _ (HL.out.below HB2.out)).mono ?_
        rintro e w3 ⟨rfl, hb3⟩
        have HB3 := Lib.hid (HB2.out.trans (hb3.mono HB2.out.size)); clear hb3
        go_wp2
        go_ret
        exact ⟨rfl, HB3.out⟩
      · rw [HLX.out] at h; cases h
      · have hgt : ¬ (65536 : Int) < (k : Int) := by omega
        rw [HLX.out] at h
        obtain rfl : [] = ts := by injection h
        have c0 : w2.cell? ⟨g, 2, none⟩ = some (.int .i64 k) := (hat 0 (by simp)).2.2
        clear h hat hle
        go_wp2_with (fail)
        refine (awake_walk _ (HL.out.below HB2.out)).mono ?_
        rintro e w3 ⟨rfl, hb3⟩
        have HB3 := Lib.hid (HB2.out.trans (hb3.mono HB2.out.size)); clear hb3 c0
        go_wp2
        go_ret
        exact ⟨rfl, HB3.out⟩
end Token
end Go.Proofs.YtklibniadcpjhaaDoor
