/- Are rows of numbers, of texts, equal; a rising row with one more; regions and exceptions, the document's way. -/
import Derived.Test.YtggabjmfdnfckaaGreatDoorEfJoinsA
namespace Go.Proofs.YtggabjmfdnfckaaGreatDoor
open Go.RowKit
set_option linter.unusedVariables false
set_option linter.unusedSimpArgs false
namespace Effect

theorem ints_take (l : List Int) (j : Nat) (hj : j < l.length) : l.take (j + 1) = l.take j ++ [nget l j] := by
  rw [List.take_add_one, nget_at hj]; rfl
set_option maxRecDepth 100000 in
set_option maxHeartbeats 6400000 in
theorem equalInts_walk {n c m d : Nat} {a b : Option Addr} {l k : List Int} {w : World} (h : RdI w n a l) (h2 : RdI w m b k) (hn : n ≤ 100000) (hm : m ≤ 100000) (hlk : l = k) : Calls Tryz.prog 10 #[.slice a n c, .slice b m d] w fun e w' => e = .returned (.bool true) ∧ Below w.heap.size w w' := by
  have mixed : Tryz.prog.follows .mixedOrders = true := by kernel_rfl
  subst hlk
  obtain rfl : n = m := by rw [← h.len, ← h2.len]
  have H := Lib.hid h; have H2 := Lib.hid h2
  clear h h2
  go_enter Tryz.func10, Tryz.ntmps10
  go_wp2_with (fail)
  go_loopg [5, 13] n (fun gh _ i wr => ∃ j q : Nat, j ≤ n ∧ n - j ≤ gh ∧ i = .int .i64 (j : Int) ∧ wr = w.drewN q)
  case atStart => exact ⟨0, 0, Nat.zero_le _, by omega, rfl, rfl⟩
  case round =>
    obtain ⟨j, q, hj, hgh, rfl, rfl⟩ := hrel
    by_cases hlt : j < n
    · have hjl : j < l.length := by rw [H.out.len]; exact hlt
      obtain ⟨b1, o1, rfl, e0⟩ := H.out.get j hjl
      obtain ⟨b2, o2, rfl, e1⟩ := H2.out.get j hjl
      generalize nget l j = x at *
      have hxx : (x == x) = true := by simp
      clear hjl
      go_wp2_with (fail)
      go_region_o
      clear hxx e0 e1
      go_wp2_with (fail)
      go_roundg (n - (j + 1))
      case measure => omega
      case rel => exact ⟨j + 1, q + 1, by omega, by omega, by go_num, rfl⟩
    · go_wp2_with (fail)
      go_ret
      exact ⟨rfl, ⟨rfl, rfl, rfl, Nat.le_refl _, fun _ _ => rfl⟩⟩
set_option maxRecDepth 100000 in
set_option maxHeartbeats 6400000 in
theorem sameStrs_walk {n c m d : Nat} {a b : Option Addr} {l k : List ByteArray} {w : World} (h : RdS w n a l) (h2 : RdS w m b k) (hn : n ≤ 100000) (hm : m ≤ 100000) (hlk : l = k) : Calls Tryz.prog 13 #[.slice a n c, .slice b m d] w fun e w' => e = .returned (.bool true) ∧ Below w.heap.size w w' := by
  have mixed : Tryz.prog.follows .mixedOrders = true := by kernel_rfl
  subst hlk
  obtain rfl : n = m := by rw [← h.len, ← h2.len]
  have H := Lib.hid h; have H2 := Lib.hid h2
  clear h h2
  go_enter Tryz.func13, Tryz.ntmps13
  go_wp2_with (fail)
  go_loopg [5, 13] n (fun gh _ i wr => ∃ j q : Nat, j ≤ n ∧ n - j ≤ gh ∧ i = .int .i64 (j : Int) ∧ wr = w.drewN q)
  case atStart => exact ⟨0, 0, Nat.zero_le _, by omega, rfl, rfl⟩
  case round =>
    obtain ⟨j, q, hj, hgh, rfl, rfl⟩ := hrel
    by_cases hlt : j < n
    · have hjl : j < l.length := by rw [H.out.len]; exact hlt
      obtain ⟨b1, o1, rfl, e0⟩ := strs_get H.out j hjl
      obtain ⟨b2, o2, rfl, e1⟩ := strs_get H2.out j hjl
      generalize l.getD j ByteArray.empty = x at *
      have hxx : (x.toList == x.toList) = true := by simp
      clear hjl
      go_wp2_with (fail)
      go_region_o
      clear hxx e0 e1
      go_wp2_with (fail)
      go_roundg (n - (j + 1))
      case measure => omega
      case rel => exact ⟨j + 1, q + 1, by omega, by omega, by go_num, rfl⟩
    · go_wp2_with (fail)
      go_ret
      exact ⟨rfl, ⟨rfl, rfl, rfl, Nat.le_refl _, fun _ _ => rfl⟩⟩
/-! ### A rising row with one more -/
def insI (x : Int) : List Int → List Int
  | [] => [x]
  | y :: l => if x < y then x :: y :: l else y :: insI x l
def putI (l : List Int) (x : Int) : List Int := if l.contains x = true then l else insI x l
theorem mem_insI (x y : Int) : ∀ l, y ∈ insI x l ↔ y = x ∨ y ∈ l
  | [] => by simp [insI]
  | z :: l => by
    unfold insI
    split
    · simp
    · rw [List.mem_cons, mem_insI x y l, List.mem_cons]
      exact ⟨fun h => by rcases h with h | h | h <;> simp [h], fun h => by rcases h with h | h | h <;> simp [h]⟩
def UpI (l : List Int) : Prop := l.Pairwise (· < ·)
theorem up_insI {x : Int} : ∀ {l : List Int}, UpI l → x ∉ l → UpI (insI x l)
  | [], _, _ => List.pairwise_singleton _ _
  | z :: l, h, hn => by
    have h' := List.pairwise_cons.1 h
    unfold insI
    split
    · rename_i hl
      refine List.pairwise_cons.2 ⟨fun b hb => ?_, h⟩
      rcases List.mem_cons.1 hb with rfl | hb
      · exact hl
      · have := h'.1 b hb; omega
    · rename_i hl
      refine List.pairwise_cons.2 ⟨fun b hb => ?_, up_insI h'.2 fun hx => hn (by simp [hx])⟩
      rcases (mem_insI x b l).1 hb with rfl | hb
      · have : b ≠ z := fun e => hn (by simp [e])
        omega
      · exact h'.1 b hb
theorem mem_putI (l : List Int) (x y : Int) : y ∈ putI l x ↔ y ∈ l ∨ y = x := by
  unfold putI
  split
  · rename_i h
    have hx : x ∈ l := by simpa using h
    exact ⟨.inl, fun h => h.elim id fun e => by rw [e]; exact hx⟩
  · rw [mem_insI]; exact Or.comm
theorem up_putI {l : List Int} (h : UpI l) (x : Int) : UpI (putI l x) := by
  unfold putI
  split
  · exact h
  · rename_i hn
    exact up_insI h (by simpa using hn)
theorem fold_putI : ∀ (k l : List Int), UpI l → UpI (k.foldl putI l) ∧ ∀ y, y ∈ k.foldl putI l ↔ y ∈ l ∨ y ∈ k
  | [], l, h => ⟨h, fun y => by simp⟩
  | x :: k, l, h => by
    obtain ⟨h1, h2⟩ := fold_putI k (putI l x) (up_putI h x)
    refine ⟨h1, fun y => ?_⟩
    show y ∈ k.foldl putI (putI l x) ↔ _
    rw [h2, mem_putI, List.mem_cons, or_assoc]
theorem upI_uniq : ∀ {l m : List Int}, UpI l → UpI m → (∀ a, a ∈ l ↔ a ∈ m) → l = m
  | [], [], _, _, _ => rfl
  | [], b :: m, _, _, h => by have := (h b).2 (by simp); cases this
  | a :: l, [], _, _, h => by have := (h a).1 (by simp); cases this
  | a :: l, b :: m, hl, hm, h => by
    have hl' := List.pairwise_cons.1 hl
    have hm' := List.pairwise_cons.1 hm
    have e : a = b := by
      rcases List.mem_cons.1 ((h a).1 (by simp)) with e | ha
      · exact e
      · rcases List.mem_cons.1 ((h b).2 (by simp)) with e | hb
        · exact e.symm
        · have h1 := hm'.1 a ha
          have h2 := hl'.1 b hb
          omega
    subst e
    congr 1
    refine upI_uniq hl'.2 hm'.2 fun x => ⟨fun hx => ?_, fun hx => ?_⟩
    · rcases List.mem_cons.1 ((h x).1 (by simp [hx])) with e | h3
      · have := hl'.1 x hx; omega
      · exact h3
    · rcases List.mem_cons.1 ((h x).2 (by simp [hx])) with e | h3
      · have := hm'.1 x hx; omega
      · exact h3
theorem up_sortedI {d : Array Int} (hs : ∀ i j, i < j → j < d.size → d[i]! ≤ d[j]!) : ∀ (m : Nat), m ≤ d.size → (Lib.compactUpTo d m).Pairwise (· < ·) ∧ ∀ x ∈ Lib.compactUpTo d m, x ≤ d[m - 1]!
  | 0, _ => ⟨by simp [Lib.compactUpTo], fun x hx => by simp [Lib.compactUpTo] at hx⟩
  | m + 1, hm => by
    obtain ⟨h1, h2⟩ := up_sortedI hs m (by omega)
    have hle : ∀ x ∈ Lib.compactUpTo d m, x ≤ d[m]! := fun x hx => by
      have hm0 : 0 < m := by
        rcases Nat.eq_zero_or_pos m with q | q
        · subst q; simp [Lib.compactUpTo] at hx
        · exact q
      exact Int.le_trans (h2 x hx) (hs (m - 1) m (by omega) (by omega))
    rw [Lib.compactUpTo_succ]
    by_cases hk : Lib.keeps d m = true
    · rw [if_pos hk]
      refine ⟨List.pairwise_append.2 ⟨h1, by simp, fun x hx y hy => ?_⟩, fun x hx => ?_⟩
      · rw [List.mem_singleton] at hy
        subst hy
        have hk' : m = 0 ∨ d[m]! ≠ d[m - 1]! := by simpa [Lib.keeps] using hk
        rcases hk' with q | q
        · subst q; simp [Lib.compactUpTo] at hx
        · have a := h2 x hx
          have hm0 : 0 < m := by
            rcases Nat.eq_zero_or_pos m with z | z
            · subst z; simp [Lib.compactUpTo] at hx
            · exact z
          have b := hs (m - 1) m (by omega) (by omega)
          have q' : d[m - 1]! ≠ d[m]! := fun e => q e.symm
          omega
      · rcases List.mem_append.1 hx with hx | hx
        · exact hle x hx
        · rw [List.mem_singleton] at hx; subst hx; exact Int.le_refl _
    · rw [if_neg hk, List.append_nil]
      exact ⟨h1, hle⟩
theorem up_tidy (l : List Int) : UpI (tidyI l) := by
  have hs : (l.mergeSort fun x y => decide (x ≤ y)).Pairwise (fun x y => decide (x ≤ y) = true) := List.pairwise_mergeSort (fun a b c h1 h2 => by have := of_decide_eq_true h1; have := of_decide_eq_true h2; exact decide_eq_true (by omega)) (fun a b => by by_cases h : a ≤ b <;> simp [h]; omega) l
  unfold tidyI
  generalize l.mergeSort (fun x y => decide (x ≤ y)) = k at hs
  exact (up_sortedI (d := k.toArray) (fun i j hij hj => by
    have hj' : j < k.length := by simpa using hj
    have := List.pairwise_iff_getElem.1 hs i j (by omega) hj' hij
    have := of_decide_eq_true this
    simpa [hj', show i < k.length by omega] using this) k.length (by simp)).1
theorem tidy_fold (l : List Int) : tidyI l = l.foldl putI [] := by
  obtain ⟨h1, h2⟩ := fold_putI l [] List.Pairwise.nil
  exact upI_uniq (up_tidy l) h1 fun y => by rw [mem_tidy, h2]; simp
end Effect
end Go.Proofs.YtggabjmfdnfckaaGreatDoor
