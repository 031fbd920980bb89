/- The document's: which is ahead; an atom is put to its place. -/
import Derived.Test.YtggabjmfdnfckaaGreatDoorEfRef0
import Derived.Deep.LoopGhost
namespace Go.Proofs.YtggabjmfdnfckaaGreatDoor
open Go.RowKit
set_option linter.unusedVariables false
set_option linter.unusedSimpArgs false
namespace Effect

/-! ### Mathematics -/
theorem ins_no {x : At} : ∀ {l : List At}, (∀ y ∈ l, lessA x y = false) → insA x l = l ++ [x]
  | [], _ => rfl
  | y :: l, h => by
    unfold insA
    rw [if_neg (by rw [h y (by simp)]; simp), ins_no fun z hz => h z (by simp [hz])]
    rfl
theorem ins_at {x z : At} : ∀ {l : List At}, (∀ y ∈ l, lessA x y = false) → lessA x z = true → insA x (l ++ [z]) = l ++ [x] ++ [z]
  | [], _, hz => by simp [insA, hz]
  | y :: l, h, hz => by
    rw [List.cons_append]
    unfold insA
    rw [if_neg (by rw [h y (by simp)]; simp), ins_at (fun z hz => h z (by simp [hz])) hz]
    rfl
theorem ins_yes {x : At} {m : List At} : ∀ {l : List At}, (∃ y ∈ l, lessA x y = true) → insA x (l ++ m) = insA x l ++ m
  | [], h => by obtain ⟨y, hy, _⟩ := h; cases hy
  | y :: l, h => by
    rw [List.cons_append]
    unfold insA
    split
    · rfl
    · rename_i hn
      rw [ins_yes (l := l) (by
        obtain ⟨z, hz, h1⟩ := h
        rcases List.mem_cons.1 hz with rfl | hz
        · exact absurd h1 hn
        · exact ⟨z, hz, h1⟩)]
      rfl
/-- What put has made of the first ones. -/
def InsAt (x : At) (d : Bool) (l o : List At) : Prop := (d = false ∧ o = l ∧ ∀ y ∈ l, lessA x y = false) ∨ (d = true ∧ o = insA x l ∧ ∃ y ∈ l, lessA x y = true)
theorem InsAt.len {x : At} {d : Bool} {l o : List At} (h : InsAt x d l o) : o.length ≤ l.length + 1 := by
  rcases h with ⟨_, rfl, _⟩ | ⟨_, rfl, _⟩
  · omega
  · have h3 : ∀ y : List At, (insA x y).length = y.length + 1 := fun y => by
      induction y with
      | nil => rfl
      | cons z y ih2 => unfold insA; split <;> simp [ih2]
    rw [h3]; exact Nat.le_refl _
theorem InsAt.len_no {x : At} {l o : List At} (h : InsAt x false l o) : o.length = l.length := by
  rcases h with ⟨_, rfl, _⟩ | ⟨h, _⟩
  · rfl
  · cases h
theorem InsAt.step_no {x z : At} {l o : List At} (h : InsAt x false l o) (hz : lessA x z = false) : InsAt x false (l ++ [z]) (o ++ [z]) := by
  rcases h with ⟨_, rfl, h⟩ | ⟨h, _⟩
  · exact .inl ⟨rfl, rfl, fun y hy => by
      rcases List.mem_append.1 hy with hy | hy
      · exact h y hy
      · rw [List.mem_singleton] at hy; rw [hy]; exact hz⟩
  · cases h
theorem InsAt.step_at {x z : At} {l o : List At} (h : InsAt x false l o) (hz : lessA x z = true) : InsAt x true (l ++ [z]) (o ++ [x] ++ [z]) := by
  rcases h with ⟨_, rfl, h⟩ | ⟨h, _⟩
  · exact .inr ⟨rfl, (ins_at h hz).symm, z, by simp, hz⟩
  · cases h
theorem InsAt.step_yes {x z : At} {l o : List At} (h : InsAt x true l o) : InsAt x true (l ++ [z]) (o ++ [z]) := by
  rcases h with ⟨h, _⟩ | ⟨_, rfl, h⟩
  · cases h
  · refine .inr ⟨rfl, (ins_yes h).symm, ?_⟩
    obtain ⟨y, hy, h1⟩ := h
    exact ⟨y, by simp [hy], h1⟩
theorem InsAt.end_no {x : At} {l o : List At} (h : InsAt x false l o) : o ++ [x] = insA x l := by
  rcases h with ⟨_, rfl, h⟩ | ⟨h, _⟩
  · exact (ins_no h).symm
  · cases h
theorem InsAt.end_yes {x : At} {l o : List At} (h : InsAt x true l o) : o = insA x l := by
  rcases h with ⟨h, _⟩ | ⟨_, h, _⟩
  · cases h
  · exact h
theorem putA_no {e : List At} {x : At} (h : atomB x = false ∨ x ∈ e) : putA e x = e := by
  unfold putA
  rw [if_neg]
  rintro ⟨h1, h2⟩
  rcases h with h | h
  · rw [h] at h1; cases h1
  · exact h2 h
theorem putA_yes {e : List At} {x : At} (h : atomB x = true) (h2 : x ∉ e) : putA e x = insA x e := by
  unfold putA; rw [if_pos ⟨h, h2⟩]
/-! ### Less -/
set_option maxHeartbeats 3200000 in
theorem less_walk (a b : At) (w : World) : Calls Tryz.prog 47 #[.agg #[.int .u8 a.k, .int .i64 a.r, .string a.x], .agg #[.int .u8 b.k, .int .i64 b.r, .string b.x]] w fun e w' => e = .returned (.bool (lessA a b)) ∧ Below w.heap.size w w' := by
  have hb2 : ∀ O O', Below w.heap.size w ((w.alloc O).alloc O') := fun O O' => (al_new O).alloc (by simp) O'
  have HB := Lib.hid hb2
  have hbx := fun O O' => at_more (w := w.alloc O) (o := O) (o' := O') (N := w.heap.size) (at_new rfl)
  clear hb2
  by_cases hk : a.k = b.k
  · by_cases hr : a.r = b.r
    · have hl : Op.bytesLess a.x.toList b.x.toList = lessA a b := by unfold lessA; rw [if_pos hk, if_pos hr]; rfl
      obtain ⟨k, r, x⟩ := a
      obtain ⟨k', r', x'⟩ := b
      simp only at hk hr hl
      subst hk hr
      have hk0 : (k == k) = true := by simp
      have hr0 : (r == r) = true := by simp
      have HL := Lib.hid hl
      clear hl
      go_enter Tryz.func47, Tryz.ntmps47
      go_wp2_with (fail)
      go_ret
      exact ⟨ret_bool HL.out, HB.out _ _⟩
    · have hl : decide (a.r < b.r) = lessA a b := by unfold lessA; rw [if_pos hk, if_neg hr]
      obtain ⟨k, r, x⟩ := a
      obtain ⟨k', r', x'⟩ := b
      simp only at hk hr hl
      subst hk
      have hk0 : (k == k) = true := by simp
      have hr0 : (r == r') = false := by simpa using hr
      have HL := Lib.hid hl
      clear hl hr
      go_enter Tryz.func47, Tryz.ntmps47
      go_wp2_with (fail)
      go_ret
      exact ⟨ret_bool HL.out, HB.out _ _⟩
  · have hl : decide (a.k < b.k) = lessA a b := by unfold lessA; rw [if_neg hk]
    obtain ⟨k, r, x⟩ := a
    obtain ⟨k', r', x'⟩ := b
    simp only at hk hl
    have hk0 : (k == k') = false := by simpa using hk
    have HL := Lib.hid hl
    clear hl hk
    go_enter Tryz.func47, Tryz.ntmps47
    go_wp2_with (fail)
    go_ret
    exact ⟨ret_bool HL.out, HB.out _ _⟩
end Effect
end Go.Proofs.YtggabjmfdnfckaaGreatDoor
