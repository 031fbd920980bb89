/- The walk of layer 3's statement on places. -/
import Derived.Test.YtklibniadcpjhaaDoorTokenAwake
import Derived.Shelf.Bytes.SlSmallAll
import Derived.IntWalk
namespace Go.Proofs.YtklibniadcpjhaaDoor
open Go.RowKit
set_option linter.unusedVariables false
namespace Token
open Chars (ret_i64 ret_bool ret_u8 cls el isin run spanI BytesAt Bytes bytes_new below_draws)
open Words (KwLaid NumLaid Laid2)

theorem el_of_mem {xs : List Int} {A i S : Nat} (h : ∀ x ∈ (xs.drop A).take (S - A), cls x = 1) (h1 : A ≤ i) (h2 : i < S) (h3 : i < xs.length) : cls (el xs i) = 1 := by
  refine h _ ?_
  have e : el xs i = ((xs.drop A).take (S - A))[i - A]'(by rw [List.length_take, List.length_drop]; omega) := by
    unfold el
    rw [List.getElem_take, List.getElem_drop, List.getD_eq_getElem?_getD, List.getElem?_eq_getElem h3]
    simp [show A + (i - A) = i from by omega]
  rw [e]
  exact List.getElem_mem _
theorem drop_tel (ts : List Tok) (k : Nat) (h : k < ts.length) : ts.drop k = tel ts k :: ts.drop (k + 1) := by
  rw [List.drop_eq_getElem_cons h]
  unfold tel
  rw [List.getD_eq_getElem?_getD, List.getElem?_eq_getElem h]
  rfl
theorem placed_step (xs : List Int) (n A : Nat) (ts : List Tok) (k : Nat) (hn : xs.length = n) (hk : k < ts.length) (hp : Placed (xs.drop A) A (ts.drop k)) :
    ∃ S N, A ≤ S ∧ 0 < N ∧ S + N ≤ n ∧ (tel ts k).a = S ∧ (tel ts k).s = strOfNums ((xs.drop S).take N) ∧ (∀ i, A ≤ i → i < S → cls (el xs i) = 1) ∧ Placed (xs.drop (S + N)) (S + N) (ts.drop (k + 1)) := by
  rw [drop_tel ts k hk] at hp
  obtain ⟨j, h1, h2, h3, h4, h5⟩ := hp
  simp only [List.drop_drop] at h2 h3 h4 h5
  have hpp := pieceN_pos _ h2
  rw [List.length_drop] at hpp
  refine ⟨A + j, pieceN (xs.drop (A + j)), by omega, hpp.1, by omega, by rw [h4]; rfl, by rw [h4]; rfl, fun i hi hi2 => ?_, h5⟩
  exact el_of_mem (S := A + j) (by rw [show A + j - A = j from by omega]; exact h1) hi hi2 (by omega)
theorem placed_end (xs : List Int) (n A : Nat) (hn : xs.length = n) (hp : ∀ x ∈ xs.drop A, cls x = 1) (i : Nat) (h1 : A ≤ i) (h2 : i < n) : cls (el xs i) = 1 :=
  el_of_mem (S := n) (fun x hx => hp x (List.mem_of_mem_take hx)) h1 h2 (by omega)
theorem blank_cases {c : Int} (h : cls c = 1) : c = 32 ∨ c = 9 ∨ c = 10 := by
  unfold cls at h
  by_cases hb : c = 32 ∨ c = 9 ∨ c = 10
  · exact hb
  · rw [if_neg hb] at h
    repeat' split at h
    all_goals omega

theorem tel_append_left (ts : List Tok) (t : Tok) (k : Nat) (h : k < ts.length) : tel (ts ++ [t]) k = tel ts k := by
  unfold tel
  rw [List.getD_eq_getElem?_getD, List.getD_eq_getElem?_getD, List.getElem?_append_left h]
theorem tel_append_last (ts : List Tok) (t : Tok) : tel (ts ++ [t]) ts.length = t := by
  unfold tel
  rw [List.getD_eq_getElem?_getD]
  simp

set_option maxRecDepth 100000 in
set_option maxHeartbeats 6400000 in
theorem tokenPlaces_walk (p : Option Addr) (n d : Nat) (xs : List Int) (w : World) (hb : BytesIn w p n d xs) (hl : Laid2 w) :
    Calls Tryd.prog 5 #[.slice p n d] w fun e w' => e = .returned (.bool true) ∧ Below w.heap.size w w' := by
  have hnl := hb.len
  have hnd := hb.2.1
  have HX := Lib.hid hb.1
  have HB := Lib.hid hb; have HL := Lib.hid hl
  clear hb hl
  by_cases hbig : 1000 < n
  · go_enter Tryd.func5, Tryd.ntmps5
    go_wp2_with (fail)
    refine (awake_walk _ HL.out).mono ?_
    rintro e w1 ⟨rfl, hb⟩
    have HB1 := Lib.hid hb; clear hb
    go_wp2
    go_ret
    exact ⟨rfl, HB1.out⟩
  go_enter Tryd.func5, Tryd.ntmps5
  go_wp2_with (fail)
  refine (lex_walk p n d xs _ HB.out HL.out).mono ?_
  rintro e w1 ⟨hb1, hc1⟩
  have HB1 := Lib.hid hb1; clear hb1
  have hni : (n : Int) ≤ 1000 := by omega
  rcases hc1 with ⟨h, _⟩ | ⟨_, q1, c1, k, h, rfl⟩ | ⟨_, ts, g, c, h, rfl, hat⟩
  · exfalso; rw [HX.out] at h; omega
  · clear h
    go_wp2_with (fail)
    refine (awake_walk _ (HL.out.below HB1.out)).mono ?_
    rintro e w2 ⟨rfl, hb2⟩
    have HB2 := Lib.hid (HB1.out.trans (hb2.mono HB1.out.size)); clear hb2
    go_wp2
    go_ret
    exact ⟨rfl, HB2.out⟩
  · have hlen := lex_len h
    rw [HX.out] at hlen hat
    obtain ⟨m, hm⟩ : ∃ m, m = ts.length := ⟨_, rfl⟩
    rw [← hm] at hlen ⊢
    have hpl := lex_placed _ xs 0 ts (Nat.le_refl _) h
    have HM := Lib.hid hm; have HAT := Lib.hid hat; have HPL := Lib.hid hpl
    clear hm hat h hpl hbig
    have hxx := HB.out.2.2.2.1.below HB1.out
    have HXX := Lib.hid hxx
    clear hxx
    go_wp2
    go_loopw [6, 7, 8, 9] (fun a i _ _ wr => ∃ k A : Nat, a = .int .i64 A ∧ i = .int .i64 k ∧ A ≤ n ∧ Below w1.heap.size w1 wr ∧ ((k ≤ m ∧ Placed (xs.drop A) A (ts.drop k)) ∨ (k = m + 1 ∧ A = n))) (fun _ i _ _ _ => m + 1 - (intOf i).toNat)
    case atStart => exact ⟨0, 0, rfl, rfl, Nat.zero_le _, Below.refl _ _, .inl ⟨Nat.zero_le _, HPL.out⟩⟩
    case round =>
      obtain ⟨k, A, rfl, rfl, hA, hw, hor⟩ := hrel
      have HW := Lib.hid hw; have HOR := Lib.hid hor
      clear hw hor
      have HWW := Lib.hid (HB1.out.trans (HW.out.mono HB1.out.size))
      by_cases hkm : k = m + 1
      · have hAn : A = n := by rcases HOR.out with ⟨h, _⟩ | ⟨_, h⟩; omega; exact h
        subst hAn
        subst hkm
        have c0 := ((HAT.out.below HW.out) m (by rw [List.length_append, ← HM.out]; simp)).1
        rw [HM.out, tel_append_last, ← HM.out] at c0
        have c0' : wr.cell? ⟨g, m * 3, none⟩ = some (.int .u8 6) := c0
        clear c0
        go_wp2_with (fail)
        refine (awake_walk _ (HL.out.below HWW.out)).mono ?_
        rintro e w2 ⟨rfl, hb2⟩
        have HB2 := Lib.hid (HWW.out.trans (hb2.mono HWW.out.size)); clear hb2 c0'
        go_wp2
        go_ret
        exact ⟨rfl, HB2.out⟩
      · have hkm' : k ≤ m := by rcases HOR.out with ⟨h, _⟩ | ⟨h, _⟩; exact h; exact absurd h hkm
        have hpA : Placed (xs.drop A) A (ts.drop k) := by rcases HOR.out with ⟨_, h⟩ | ⟨h, _⟩; exact h; exact absurd h hkm
        obtain ⟨c0, c1, c2⟩ := (HAT.out.below HW.out) k (by rw [List.length_append, ← HM.out]; simp; omega)
        by_cases hk : k < m
        · obtain ⟨S, N, hAS, hN0, hSN, ha, hs, hbl, hnext⟩ := placed_step xs n A ts k HX.out (by rw [← HM.out]; exact hk) hpA
          rw [tel_append_left _ _ _ (by rw [← HM.out]; exact hk)] at c0 c1 c2
          have hTs : (tel ts k).s.size = N := by rw [hs, strOfNums_size, List.length_take, List.length_drop, HX.out]; omega
          rw [ha] at c2
          obtain ⟨b, o, rfl, hcell⟩ := BytesAt.cells HXX.out (by rw [HX.out]; omega)
          have hcl : ∀ (O : Obj) (q : Nat), ∀ i, i < xs.length → ((wr.alloc O).drewN q).cell? ⟨b, o + i, none⟩ = some (.int .u8 (el xs i)) := fun O q i hi =>
            ((below_draws (HW.out.alloc HW.out.size O) q).cell (p := ⟨b, o + i, none⟩) (World.block_lt_of_cell? w1 _ (hcell i hi))).trans (hcell i hi)
          have hcv := fun (O : Obj) (q : Nat) => cut_text ((wr.alloc O).drewN q) b o N (d - S) xs S (hcl O q) (by rw [HX.out]; exact hSN)
          rw [← hs] at hcv
          generalize (tel ts k).s = T at *
          generalize (tel ts k).k = K at *
          have HNX := Lib.hid hnext; have HBL := Lib.hid hbl; have HCL := Lib.hid hcl; have HTS := Lib.hid hTs
          clear hnext hbl hcl hs ha hpA hkm hcell HOR
          subst hTs
          clear HTS
          have hq1 : ¬ ((S : Int) < (A : Int)) := by omega
          have hq2 : ¬ ((n : Int) < (S : Int) + (T.size : Int)) := by omega
          have hq3 : (0 : Int) ≤ (S : Int) + (T.size : Int) := by omega
          have hq4 : (S : Int) ≤ (S : Int) + (T.size : Int) := by omega
          have hq5 : (S : Int) + (T.size : Int) ≤ (d : Int) := by omega
          have e9 : some (⟨b, o + S, none⟩ : Addr) = (if d = S then some ⟨b, o, none⟩ else some ⟨b, o + S, none⟩) := by rw [if_neg (by omega)]
          have hcv2 := hcv
          rw [e9] at hcv2
          clear e9
          go_wp2
          have hq7 : IntKind.i64.wrap ((S : Int) + (T.size : Int)) = (S : Int) + (T.size : Int) := IntWalk.i64_in _ (by omega)
          have hq8 : ((S : Int) + (T.size : Int)).toNat = S + T.size := by omega
          go_quiet (fail)
          clear hq7 hq8 hcv2 hcv
          go_wp2
          go_loop [9] (fun i => ∃ j : Nat, A ≤ j ∧ j ≤ S ∧ i = .int .i64 j) (fun i => S - (intOf i).toNat)
          case atStart => exact ⟨A, Nat.le_refl _, hAS, rfl⟩
          case round =>
            obtain ⟨j, hj1, hj2, rfl⟩ := hrel
            by_cases hjl : j < S
            · have hjn : (j : Int) < (n : Int) := by omega
              have hcj := fun O q => HCL.out O q j (by rw [HX.out]; omega)
              rcases blank_cases (HBL.out j hj1 hjl) with hv | hv | hv
              all_goals
                rw [hv] at hcj
                clear hv
                go_wp2
                go_round
                case rel => exact ⟨j + 1, by omega, by omega, by go_num⟩
                case measure => simp [intOf]; omega
            · obtain rfl : j = S := by omega
              go_wp2
              go_roundw
              case rel =>
                refine ⟨k + 1, j + T.size, by go_num, by go_num, hSN, below_draws (HW.out.alloc HW.out.size _) _, .inl ⟨by omega, HNX.out⟩⟩
              case measure => simp [intOf]; omega
        · obtain rfl : k = m := by omega
          rw [HM.out, tel_append_last, ← HM.out] at c0 c1 c2
          have hd0 : ts.drop k = [] := List.drop_eq_nil_of_le (by rw [HM.out]; exact Nat.le_refl _)
          rw [hd0] at hpA
          have hbl : ∀ i, A ≤ i → i < n → cls (el xs i) = 1 := placed_end xs n A HX.out hpA
          have d0 : wr.cell? ⟨g, k * 3, none⟩ = some (.int .u8 6) := c0
          have d1 : wr.cell? ⟨g, k * 3 + 1, none⟩ = some (.string ⟨#[]⟩) := c1
          have d2 : wr.cell? ⟨g, k * 3 + 2, none⟩ = some (.int .i64 n) := c2
          have hcell : ∀ i, i < n → ∃ b o, p = some ⟨b, o, none⟩ ∧ ∀ (O : Obj) (q : Nat), ((wr.alloc O).drewN q).cell? ⟨b, o + i, none⟩ = some (.int .u8 (el xs i)) := fun i hi => by
            obtain ⟨b, o, hp, hc⟩ := BytesAt.cells HXX.out (by rw [HX.out]; omega)
            have hci := hc i (by rw [HX.out]; exact hi)
            exact ⟨b, o, hp, fun O q => ((below_draws (HW.out.alloc HW.out.size O) q).cell (p := ⟨b, o + i, none⟩) (World.block_lt_of_cell? w1 _ hci)).trans hci⟩
          have hcv : ∀ (W : World) (p : Option Addr) (c : Nat), (convert 22 9 (.slice p 0 c)).run Tryd.prog W = .ok (.string ⟨#[]⟩) W := fun W p c => run_convert_bytes_zero (P := Tryd.prog) W 22 5 Tryd.underlying22 Tryd.underlying5 p c 9 Tryd.underlying9
          have HCE := Lib.hid hcell; have HBL := Lib.hid hbl
          clear hcell hbl c0 c1 c2 hpA hkm HOR hk
          have hq1 : ¬ ((n : Int) < (A : Int)) := by omega
          have hq5 : (n : Int) ≤ (d : Int) := by omega
          go_wp2
          have hq7 : IntKind.i64.wrap (n : Int) = (n : Int) := IntWalk.i64_in _ (by omega)
          go_quiet (fail)
          clear hq7 hcv
          generalize (if d = n then p else Option.map (fun x : Addr => x.add n) p) = P58
          go_wp2
          go_loop [9] (fun i => ∃ j : Nat, A ≤ j ∧ j ≤ n ∧ i = .int .i64 j) (fun i => n - (intOf i).toNat)
          case atStart => exact ⟨A, Nat.le_refl _, hA, rfl⟩
          case round =>
            obtain ⟨j, hj1, hj2, rfl⟩ := hrel
            by_cases hjl : j < n
            · obtain ⟨b, o, rfl, hcj⟩ := HCE.out j hjl
              rcases blank_cases (HBL.out j hj1 hjl) with hv | hv | hv
              all_goals
                rw [hv] at hcj
                clear hv
                go_wp2
                go_round
                case rel => exact ⟨j + 1, by omega, by omega, by go_num⟩
                case measure => simp [intOf]; omega
            · obtain rfl : j = n := by omega
              go_wp2
              go_roundw
              case rel =>
                refine ⟨k + 1, j, by go_num, by go_num, Nat.le_refl _, below_draws (HW.out.alloc HW.out.size _) _, .inr ⟨rfl, rfl⟩⟩
              case measure => simp [intOf] <;> omega
end Token
end Go.Proofs.YtklibniadcpjhaaDoor
