/- A row of atoms of one's own, sorted and made compact: the effect of its atoms. -/
import Derived.Test.YtggabjmfdnfckaaGreatDoorEfCompW
namespace Go.Proofs.YtggabjmfdnfckaaGreatDoor
open Go.RowKit Go.Sort Go.Shelf Go.Lib
set_option linter.unusedVariables false
set_option linter.unusedSimpArgs false
namespace Effect

def compL (l : List At) : List At := compactUpTo l.toArray l.length
theorem mem_upTo {d : Array At} : ∀ (m : Nat), (∀ x ∈ compactUpTo d m, ∃ j, j < m ∧ d[j]! = x) ∧ ∀ j, j < m → d[j]! ∈ compactUpTo d m
  | 0 => ⟨fun x hx => by simp [compactUpTo] at hx, fun j hj => by omega⟩
  | m + 1 => by
    obtain ⟨h1, h2⟩ := mem_upTo (d := d) m
    rw [compactUpTo_succ]
    refine ⟨fun x hx => ?_, fun j hj => ?_⟩
    · rcases List.mem_append.1 hx with hx | hx
      · obtain ⟨j, a, b⟩ := h1 x hx; exact ⟨j, by omega, b⟩
      · split at hx
        · rw [List.mem_singleton] at hx; exact ⟨m, by omega, hx.symm⟩
        · cases hx
    · rcases Nat.lt_or_ge j m with hj' | hj'
      · exact List.mem_append_left _ (h2 j hj')
      · obtain rfl : j = m := by omega
        by_cases hk : keeps d j = true
        · rw [if_pos hk]; exact List.mem_append_right _ (List.mem_singleton.2 rfl)
        · have hk' : ¬ (j = 0 ∨ d[j]! ≠ d[j - 1]!) := by simpa [keeps] using hk
          have h0 : j ≠ 0 := fun e => hk' (.inl e)
          have he : d[j]! = d[j - 1]! := Classical.not_not.1 fun e => hk' (.inr e)
          rw [he]
          exact List.mem_append_left _ (h2 (j - 1) (by omega))
theorem up_sorted {d : Array At} (hs : ∀ i j, i < j → j < d.size → lessA d[j]! d[i]! = false) : ∀ (m : Nat), m ≤ d.size → Up (compactUpTo d m) ∧ ∀ x ∈ compactUpTo d m, lessA d[m - 1]! x = false
  | 0, _ => ⟨by simp [compactUpTo, Up], fun x hx => by simp [compactUpTo] at hx⟩
  | m + 1, hm => by
    obtain ⟨h1, h2⟩ := up_sorted hs m (by omega)
    have hpos : ∀ x ∈ compactUpTo d m, 0 < m := fun x hx => by
      rcases Nat.eq_zero_or_pos m with q | q
      · subst q; simp [compactUpTo] at hx
      · exact q
    have hle : ∀ x ∈ compactUpTo d m, lessA d[m]! x = false := fun x hx =>
      swoA.ntrans _ _ _ (hs (m - 1) m (by have := hpos x hx; omega) (by omega)) (h2 x hx)
    rw [compactUpTo_succ]
    by_cases hk : keeps d m = true
    · rw [if_pos hk]
      refine ⟨List.pairwise_append.2 ⟨h1, by simp, fun x hx y hy => ?_⟩, fun x hx => ?_⟩
      · rw [List.mem_singleton] at hy
        subst hy
        have hk' : m = 0 ∨ d[m]! ≠ d[m - 1]! := by simpa [keeps] using hk
        have hm0 := hpos x hx
        cases h3 : lessA x d[m]! with
        | true => rfl
        | false =>
          exfalso
          have e : x = d[m]! := lessA_total h3 (hle x hx)
          have h4 := h2 x hx
          rw [e] at h4
          have h5 := hs (m - 1) m (by omega) (by omega)
          exact hk'.resolve_left (by omega) (lessA_total h5 h4)
      · rcases List.mem_append.1 hx with hx | hx
        · exact hle x hx
        · rw [List.mem_singleton] at hx; subst hx; exact lessA_irrefl _
    · rw [if_neg hk, List.append_nil]
      exact ⟨h1, hle⟩
theorem mem_compL (l : List At) (x : At) : x ∈ compL l ↔ x ∈ l := by
  obtain ⟨h1, h2⟩ := mem_upTo (d := l.toArray) l.length
  constructor
  · intro hx
    obtain ⟨j, hj, e⟩ := h1 x hx
    rw [← e]
    simp [hj]
  · intro hx
    obtain ⟨j, hj, e⟩ := List.mem_iff_getElem.1 hx
    have := h2 j hj
    have e2 : l.toArray[j]! = x := by simp [hj, e]
    rw [e2] at this
    exact this
theorem up_compL {l : List At} (h : l.Pairwise fun x y => lessA y x = false) : Up (compL l) :=
  (up_sorted (d := l.toArray) (fun i j hij hj => by
    have hj' : j < l.length := by simpa using hj
    have := List.pairwise_iff_getElem.1 h i j (by omega) hj' hij
    simpa [hj', show i < l.length by omega] using this) l.length (by simp)).1
theorem compL_of {l s : List At} (hs : s.Pairwise fun x y => lessA y x = false) (hp : ∀ b, b ∈ s ↔ b ∈ l ∧ atomB b = true) : compL s = ofA l :=
  of_uniq (up_compL hs) fun b => by rw [mem_compL]; exact hp b
theorem compL_short {l : List At} (h : l.length < 2) : compL l = l := by
  match l, h with
  | [], _ => rfl
  | [x], _ => simp [compL, compactUpTo, keeps]
theorem compL_all {l : List At} (h : ∀ j, j < l.length → keeps l.toArray j = true) : compL l = l := by
  unfold compL
  rw [compactUpTo_all _ _ h]
  have := range_map_get l.toArray
  rw [List.size_toArray] at this
  exact this
theorem compL_le (l : List At) : (compL l).length ≤ l.length := by
  have key : ∀ m, (compactUpTo l.toArray m).length ≤ m := fun m => by
    induction m with
    | zero => simp [compactUpTo]
    | succ m ih => rw [compactUpTo_succ, List.length_append]; split <;> simp <;> omega
  exact key _
set_option maxHeartbeats 3200000 in
theorem compact_short (a : Option Addr) (n c : Nat) (w : World) (hn : n < 2) : Calls Tryz.prog 42 #[.slice a n c] w fun e w' => e = .returned (.slice a n c) ∧ w' = w := by
  go_enter Tryz.func42, Tryz.ntmps42
  go_wp2_with (fail)
  go_ret
  exact ⟨rfl, rfl⟩
theorem compact_walk (B n c : Nat) (a : Option Addr) (l : List At) (w : World) (hl : l.length = n) (h : w.ownsRow B 47 3 (.slice a n c) n (flat l)) (hn : n ≤ 1000000) :
    Calls Tryz.prog 42 #[.slice a n c] w fun e w' => e = .returned (.slice a (compL l).length c) ∧ w'.ownsRow B 47 3 (.slice a (compL l).length c) (compL l).length (flat (compL l)) ∧ w.grownBy w' (Value.slice a n c).ownBlock := by
  subst hl
  by_cases h2 : l.length < 2
  · refine (compact_short a l.length c w h2).mono ?_
    rintro e w' ⟨rfl, rfl⟩
    rw [compL_short h2]
    exact ⟨rfl, h, ⟨rfl, rfl, rfl, Nat.le_refl _, fun _ _ _ => rfl⟩⟩
  · rcases h.2 with ⟨hv, h0⟩ | ⟨g, cap, cur, hv, hb, hg, k1, k2, k3, k4⟩
    · omega
    · injection hv with hv1 hv2 hv3
      subst hv1 hv3
      have hH : HoldsK enc 3 w g 0 l.toArray := by
        unfold HoldsK
        rw [flatK_flat]
        exact holdsV hg (by rw [flat_len]; exact k4)
      refine (compact_mid g l.length c l.toArray w (by simp) hH (lt_of_block hg) (by omega) k1 hn).mono ?_
      rintro e w' (⟨rfl, hall, q, rfl⟩ | ⟨K, q, dk, rfl, hI, rfl⟩)
      · rw [compL_all hall]
        exact ⟨rfl, ⟨h.1, .inr ⟨g, c, cur, rfl, hb, hg, k1, k2, k3, k4⟩⟩, ⟨rfl, rfl, rfl, Nat.le_refl _, fun _ _ _ => rfl⟩⟩
      · obtain ⟨h3, h4⟩ := comp_end (q := q) (by simp) hb hg k1 k2 k3 hI
        have hK : (compL l).length = K := hI.len
        rw [hK]
        exact ⟨rfl, h3, h4⟩
end Effect
end Go.Proofs.YtggabjmfdnfckaaGreatDoor
