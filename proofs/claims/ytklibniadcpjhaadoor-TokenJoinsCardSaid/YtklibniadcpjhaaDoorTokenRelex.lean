/- What is joined is cut into the same tokens: of no program. -/
import Derived.Test.YtklibniadcpjhaaDoorTokenJoin
namespace Go.Proofs.YtklibniadcpjhaaDoor
set_option linter.unusedVariables false
namespace Token
open Chars (cls el isin run Bytes)
open Words (ints)

theorem ints_str (s : ByteArray) : strOfNums (ints s.data.toList) = s := by
  apply Words.bytes_ext
  rw [strOfNums_data]
  unfold ints
  rw [List.map_map]
  conv => rhs; rw [← List.map_id s.data.toList]
  refine List.map_congr_left fun c _ => ?_
  simp
/-- The bytes of tokens, each with a blank behind it. -/
def jl (ts : List Tok) : List Int := ts.flatMap fun t => ints t.s.data.toList ++ [32]
theorem jl_cons (t : Tok) (ts : List Tok) : jl (t :: ts) = ints t.s.data.toList ++ 32 :: jl ts := by
  unfold jl
  rw [List.flatMap_cons, List.append_assoc]
  rfl
theorem tail_join (sep : List UInt8) (l : List (List UInt8)) (h : l ≠ []) : Lib.joinTail sep l = sep ++ Lib.join l sep := by
  cases l with
  | nil => exact absurd rfl h
  | cons x r =>
    rw [Lib.join_cons]
    simp [Lib.joinTail]
theorem join_bytes (n : Nat) : ∀ ts : List Tok, ints (jb (texts (ts ++ [endT n]))).data.toList = jl ts
  | [] => by
    rw [jb_list]
    rfl
  | t :: ts => by
    have ih := join_bytes n ts
    rw [jb_list] at ih ⊢
    rw [jl_cons, ← ih, List.cons_append]
    show ints (Lib.join (t.s.data.toList :: (texts (ts ++ [endT n])).map (·.data.toList)) [32]) = _
    rw [Lib.join_cons, tail_join _ _ (by simp [texts])]
    unfold ints
    simp

/-- A token that stands alone. -/
def Self (t : Tok) : Prop := ints t.s.data.toList ≠ [] ∧ pieceN (ints t.s.data.toList) = (ints t.s.data.toList).length ∧ pieceK (ints t.s.data.toList) = t.k ∧ t.k ≠ 0
theorem self_of (xs : List Int) (a : Nat) (hb : Bytes xs) (h0 : xs ≠ []) (hk : pieceK xs ≠ 0) : Self (tokAt xs a) := by
  have hp := pieceN_pos xs h0
  obtain ⟨h1, h2⟩ := piece_take xs h0
  have hi : ints (tokAt xs a).s.data.toList = xs.take (pieceN xs) := str_ints _ (bytes_take hb _)
  unfold Self
  rw [hi, h1, h2, List.length_take]
  refine ⟨fun e => ?_, by omega, rfl, hk⟩
  have := congrArg List.length e
  rw [List.length_take, List.length_nil] at this
  omega
theorem bytes_drop {xs : List Int} (h : Bytes xs) (k : Nat) : Bytes (xs.drop k) := fun x hx => h x (List.mem_of_mem_drop hx)
theorem placed_self : ∀ (ts : List Tok) (xs : List Int) (a : Nat), Bytes xs → Placed xs a ts → ∀ t ∈ ts, Self t
  | [], _, _, _, _, t, ht => by cases ht
  | t :: ts, xs, a, hb, ⟨j, _, h2, h3, h4, h5⟩, u, hu => by
    rcases List.mem_cons.1 hu with rfl | hu
    · rw [h4]
      exact self_of _ _ (bytes_drop hb j) h2 h3
    · exact placed_self ts _ _ (bytes_drop (bytes_drop hb j) _) h5 u hu
theorem placed_jl : ∀ (ts : List Tok) (xs : List Int) (a : Nat), Placed xs a ts → (jl ts).length ≤ 2 * xs.length
  | [], _, _, _ => Nat.zero_le _
  | t :: ts, xs, a, ⟨j, _, h2, _, h4, h5⟩ => by
    have ih := placed_jl ts _ _ h5
    have hp := pieceN_pos _ h2
    rw [List.length_drop, List.length_drop] at ih
    rw [List.length_drop] at hp
    have hs : (ints t.s.data.toList).length = pieceN (xs.drop j) := by
      rw [Words.ints_length, h4]
      show (strOfNums _).data.toList.length = _
      rw [strOfNums_data, List.length_map, List.length_take, List.length_drop]
      omega
    rw [jl_cons, List.length_append, List.length_cons, hs]
    omega
/-- Kinds and texts alone. -/
def ks (ts : List Tok) : List (Int × ByteArray) := ts.map fun t => (t.k, t.s)
theorem relex : ∀ (ts : List Tok) (a : Nat), (∀ t ∈ ts, Self t) → ∃ us, lex (jl ts) a = .inr us ∧ ks us = ks ts
  | [], a, _ => ⟨[], rfl, rfl⟩
  | t :: ts, a, h => by
    obtain ⟨h0, hn, hk, hk0⟩ := h t (by simp)
    obtain ⟨us, hu, he⟩ := relex ts (a + (ints t.s.data.toList).length + 1) (fun u hu => h u (by simp [hu]))
    have hed : Edge (32 :: jl ts) := .inr (by show cls 32 = 1; decide)
    obtain ⟨e1, e2⟩ := piece_edge (ints t.s.data.toList) (32 :: jl ts) h0 hed
    have hne : ints t.s.data.toList ++ 32 :: jl ts ≠ [] := by simp [h0]
    have h32 : cls (el (32 :: jl ts) 0) = 1 := by show cls 32 = 1; decide
    refine ⟨⟨t.k, t.s, a⟩ :: us, ?_, by unfold ks at he ⊢; rw [List.map_cons, List.map_cons, he]⟩
    rw [jl_cons, lex_tok _ _ hne (by rw [e2, hk]; exact hk0), e1, hn, List.drop_left, lex_blank _ _ (by simp) h32, List.drop_one, List.tail_cons, hu]
    have : tokAt (ints t.s.data.toList ++ 32 :: jl ts) a = ⟨t.k, t.s, a⟩ := by
      unfold tokAt
      rw [e1, e2, hk, hn, List.take_left, ints_str]
    rw [this]
    rfl
theorem ks_tel (us ts : List Tok) (h : ks us = ks ts) (i : Nat) : us.length = ts.length ∧ (tel us i).k = (tel ts i).k ∧ (tel us i).s = (tel ts i).s := by
  have hl : us.length = ts.length := by have := congrArg List.length h; simpa [ks] using this
  refine ⟨hl, ?_⟩
  have hi := congrArg (·[i]?) h
  unfold ks at hi
  simp only [List.getElem?_map] at hi
  unfold tel
  rw [List.getD_eq_getElem?_getD, List.getD_eq_getElem?_getD]
  cases h1 : us[i]? <;> cases h2 : ts[i]? <;> rw [h1, h2] at hi <;> simp at hi <;> simp [hi]

/-! ### Sizes -/
theorem lens_le (B : Nat) : ∀ l : List (List UInt8), (∀ x ∈ l, x.length ≤ B) → Lib.lens l ≤ B * l.length
  | [], _ => by simp [Lib.lens]
  | x :: r, h => by
    have ih := lens_le B r (fun y hy => h y (by simp [hy]))
    have hx := h x (by simp)
    unfold Lib.lens at ih ⊢
    simp only [List.map_cons, List.sum_cons, List.length_cons, Nat.mul_add, Nat.mul_one] at ih ⊢
    omega
theorem jb_size (ss : List ByteArray) (h : ∀ s ∈ ss, s.size ≤ 100) (hl : ss.length ≤ 100) : (jb ss).size ≤ 1000000 := by
  have e : (jb ss).size = (Lib.join (ss.map (·.data.toList)) [32]).length := by rw [← jb_list]; rfl
  rw [e]
  cases ss with
  | nil => simp [Lib.join_nil]
  | cons x r =>
    rw [List.map_cons, Lib.join_length]
    have := lens_le 100 (x.data.toList :: r.map (·.data.toList)) (fun y hy => by
      rcases List.mem_cons.1 hy with rfl | hy
      · exact h x (by simp)
      · obtain ⟨z, hz, rfl⟩ := List.mem_map.1 hy
        exact h z (by simp [hz]))
    simp only [List.length_cons, List.length_map, List.length_nil] at this hl ⊢
    omega
theorem jb_end_size (xs : List Int) (n : Nat) (ts : List Tok) (h : lex xs 0 = .inr ts) : (jb (texts (ts ++ [endT n]))).size ≤ 2 * xs.length := by
  have := placed_jl ts xs 0 (lex_placed _ xs 0 ts (Nat.le_refl _) h)
  rw [← join_bytes n ts, Words.ints_length] at this
  exact this
end Token
end Go.Proofs.YtklibniadcpjhaaDoor
