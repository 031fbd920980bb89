/- Plain facts on texts that are cut into tokens: of no program. -/
import Derived.Test.YtlmaphaipcfppaaGreatDoorWordsMath
import Derived.Laws.BytesArg
namespace Go.Proofs.YtlmaphaipcfppaaGreatDoor
namespace Token
open Chars (cls el isin run Bytes)
open Words (ints kwN nameB exnB numB)

/-! ### Bytes and their text -/
theorem str_ints (xs : List Int) (h : Bytes xs) : ints (strOfNums xs).data.toList = xs := by
  rw [strOfNums_data]
  unfold ints
  rw [List.map_map]
  conv => rhs; rw [← List.map_id xs]
  refine List.map_congr_left fun x hx => ?_
  have := h x hx
  simp
  omega
theorem el_take (xs : List Int) (n k : Nat) (h : k < n) : el (xs.take n) k = el xs k := by
  unfold el
  rw [List.getD_eq_getElem?_getD, List.getD_eq_getElem?_getD, List.getElem?_take, if_pos h]
theorem el_append (xs ys : List Int) (k : Nat) (h : k < xs.length) : el (xs ++ ys) k = el xs k := by
  unfold el
  rw [List.getD_eq_getElem?_getD, List.getD_eq_getElem?_getD, List.getElem?_append_left h]
theorem bytes_take {xs : List Int} (h : Bytes xs) (n : Nat) : Bytes (xs.take n) := fun x hx => h x (List.mem_of_mem_take hx)

/-! ### Spans -/
theorem run_nil (ys : List Int) : run ys [] = 0 := rfl
theorem run_cons (ys : List Int) (x : Int) (r : List Int) : run ys (x :: r) = if isin ys (cls x) = true then run ys r + 1 else 0 := by
  unfold run
  cases h : isin ys (cls x) <;> simp [h]
theorem run_pos (ys xs : List Int) (h0 : xs ≠ []) (h : isin ys (cls (el xs 0)) = true) : 0 < run ys xs := by
  cases xs with
  | nil => exact absurd rfl h0
  | cons x r =>
    have h' : isin ys (cls x) = true := h
    rw [run_cons, if_pos h']
    omega
theorem run_take (ys : List Int) : ∀ xs : List Int, run ys (xs.take (run ys xs)) = run ys xs
  | [] => rfl
  | x :: r => by
    have ih := run_take ys r
    rw [run_cons]
    cases h : isin ys (cls x)
    · simp [run_nil]
    · simp only [if_true, List.take_succ_cons, run_cons, h, ih]
/-- Nothing stands there, or a blank. -/
def Edge (zs : List Int) : Prop := zs = [] ∨ cls (el zs 0) = 1
theorem run_edge (ys zs : List Int) (hy : isin ys 1 = false) (hz : Edge zs) : run ys zs = 0 := by
  cases zs with
  | nil => rfl
  | cons z r =>
    have hc : cls z = 1 := by
      rcases hz with h | h
      · cases h
      · exact h
    rw [run_cons, hc, hy]
    rfl
theorem run_append (ys zs : List Int) (hy : isin ys 1 = false) (hz : Edge zs) : ∀ xs : List Int, run ys (xs ++ zs) = run ys xs
  | [] => by rw [List.nil_append, run_edge ys zs hy hz]; rfl
  | x :: r => by
    have ih := run_append ys zs hy hz r
    rw [List.cons_append, run_cons, run_cons, ih]

/-! ### One token -/
def digK (s : ByteArray) : Int := if numB s.data.toList = true then 1 else 0
def letK (s : ByteArray) : Int := if 0 < kwN s.data.toList then 4 else if nameB s = true then 2 else if exnB s = true then 3 else 0
/-- Is it one of the signs of two bytes? -/
def two (xs : List Int) : Bool := decide (1 < xs.length ∧ ((el xs 0 = 58 ∧ el xs 1 = 61) ∨ (el xs 0 = 61 ∧ el xs 1 = 62)))
/-- How many bytes the token has. -/
def pieceN (xs : List Int) : Nat :=
  if cls (el xs 0) = 2 then run [2] xs else if cls (el xs 0) = 3 ∨ cls (el xs 0) = 4 then run [3, 4, 2] xs else if two xs = true then 2 else 1
/-- Its kind; 0. -/
def pieceK (xs : List Int) : Int :=
  if cls (el xs 0) = 2 then digK (strOfNums (xs.take (run [2] xs)))
  else if cls (el xs 0) = 3 ∨ cls (el xs 0) = 4 then letK (strOfNums (xs.take (run [3, 4, 2] xs)))
  else if cls (el xs 0) = 5 then (if two xs = true then 5 else if el xs 0 = 58 ∨ el xs 0 = 62 then 0 else 5) else 0

theorem pieceK_range (xs : List Int) : 0 ≤ pieceK xs ∧ pieceK xs ≤ 5 := by
  unfold pieceK digK letK
  repeat' split
  all_goals omega
theorem two_len {xs : List Int} (h : two xs = true) : 1 < xs.length := by
  unfold two at h
  exact (of_decide_eq_true h).1
theorem pieceN_pos (xs : List Int) (h0 : xs ≠ []) : 0 < pieceN xs ∧ pieceN xs ≤ xs.length := by
  have hl : 0 < xs.length := List.length_pos_iff.2 h0
  unfold pieceN
  by_cases h2 : cls (el xs 0) = 2
  · rw [if_pos h2]
    exact ⟨run_pos _ _ h0 (by rw [h2]; rfl), Chars.run_le _ _⟩
  rw [if_neg h2]
  by_cases h3 : cls (el xs 0) = 3 ∨ cls (el xs 0) = 4
  · rw [if_pos h3]
    exact ⟨run_pos _ _ h0 (by rcases h3 with h | h <;> rw [h] <;> rfl), Chars.run_le _ _⟩
  rw [if_neg h3]
  cases ht : two xs
  · simp; omega
  · have := two_len ht
    simp; omega
theorem ne_blank {xs : List Int} (h : pieceK xs ≠ 0) : cls (el xs 0) ≠ 1 := by
  intro hc
  apply h
  unfold pieceK
  rw [hc, if_neg (by decide), if_neg (by decide), if_neg (by decide)]

/-- A token alone is that token. -/
theorem piece_take (xs : List Int) (h0 : xs ≠ []) : pieceN (xs.take (pieceN xs)) = pieceN xs ∧ pieceK (xs.take (pieceN xs)) = pieceK xs := by
  obtain ⟨hp, hle⟩ := pieceN_pos xs h0
  have he := el_take xs (pieceN xs) 0 hp
  by_cases h2 : cls (el xs 0) = 2
  · have hn : pieceN xs = run [2] xs := by unfold pieceN; rw [if_pos h2]
    rw [hn] at he ⊢
    have hr := run_take [2] xs
    constructor
    · unfold pieceN; rw [he, if_pos h2, hr]
    · unfold pieceK; rw [he, if_pos h2, hr, if_pos h2, List.take_take, Nat.min_self]
  by_cases h3 : cls (el xs 0) = 3 ∨ cls (el xs 0) = 4
  · have hn : pieceN xs = run [3, 4, 2] xs := by unfold pieceN; rw [if_neg h2, if_pos h3]
    rw [hn] at he ⊢
    have hr := run_take [3, 4, 2] xs
    constructor
    · unfold pieceN; rw [he, if_neg h2, if_pos h3, hr]
    · unfold pieceK; rw [he, if_neg h2, if_pos h3, hr, if_neg h2, if_pos h3, List.take_take, Nat.min_self]
  have hN : ∀ ys : List Int, el ys 0 = el xs 0 → pieceN ys = if two ys = true then 2 else 1 := fun ys h => by unfold pieceN; rw [h, if_neg h2, if_neg h3]
  have hK : ∀ ys : List Int, el ys 0 = el xs 0 → pieceK ys = if cls (el xs 0) = 5 then (if two ys = true then 5 else if el xs 0 = 58 ∨ el xs 0 = 62 then 0 else 5) else 0 := fun ys h => by unfold pieceK; rw [h, if_neg h2, if_neg h3]
  have hn := hN xs rfl
  rw [hn] at he hp hle ⊢
  cases ht : two xs
  · rw [ht] at he
    have h1 : two (xs.take 1) = false := by
      unfold two
      exact decide_eq_false fun h => by have := h.1; rw [List.length_take] at this; omega
    simp only [Bool.false_eq_true, if_false] at he ⊢
    rw [hN _ he, hK _ he, hK _ rfl, h1, ht]
    exact ⟨rfl, rfl⟩
  · rw [ht] at he
    have hl := two_len ht
    have e0 := el_take xs 2 0 (by omega)
    have e1 := el_take xs 2 1 (by omega)
    have h1 : two (xs.take 2) = true := by
      unfold two at ht ⊢
      have := of_decide_eq_true ht
      rw [e0, e1, List.length_take]
      exact decide_eq_true ⟨by omega, this.2⟩
    simp only [if_true] at he ⊢
    rw [hN _ he, hK _ he, hK _ rfl, h1, ht]
    exact ⟨rfl, rfl⟩

/-- What stands behind a blank plays no part in the token ahead. -/
theorem piece_edge (xs zs : List Int) (h0 : xs ≠ []) (hz : Edge zs) : pieceN (xs ++ zs) = pieceN xs ∧ pieceK (xs ++ zs) = pieceK xs := by
  have hl : 0 < xs.length := List.length_pos_iff.2 h0
  have he := el_append xs zs 0 hl
  have hr2 := run_append [2] zs (by decide) hz xs
  have hr3 := run_append [3, 4, 2] zs (by decide) hz xs
  have hle2 := Chars.run_le [2] xs
  have hle3 := Chars.run_le [3, 4, 2] xs
  have ht : two (xs ++ zs) = two xs := by
    unfold two
    rw [he, decide_eq_decide]
    by_cases h1 : 1 < xs.length
    · rw [el_append xs zs 1 h1, List.length_append]
      exact ⟨fun h => ⟨h1, h.2⟩, fun h => ⟨by omega, h.2⟩⟩
    · refine ⟨fun h => ?_, fun h => absurd h.1 h1⟩
      exfalso
      have h1' : xs.length = 1 := by omega
      rcases hz with rfl | hz
      · rw [List.append_nil] at h; exact h1 h.1
      · have : el (xs ++ zs) 1 = el zs 0 := by
          unfold el
          rw [List.getD_eq_getElem?_getD, List.getD_eq_getElem?_getD, List.getElem?_append_right (by omega), h1']
        rw [this] at h
        have hc : ∀ c : Int, c = 61 ∨ c = 62 → cls c ≠ 1 := by
          intro c hc
          rcases hc with rfl | rfl <;> decide
        rcases h.2 with ⟨_, h⟩ | ⟨_, h⟩
        · exact hc _ (.inl h) hz
        · exact hc _ (.inr h) hz
  constructor
  · unfold pieceN
    rw [he, hr2, hr3, ht]
  · unfold pieceK
    rw [he, hr2, hr3, ht, List.take_append_of_le_length hle2, List.take_append_of_le_length hle3]

/-! ### A text -/
structure Tok where
  k : Int
  s : ByteArray
  a : Nat

def pre (ts : List Tok) : Nat ⊕ List Tok → Nat ⊕ List Tok
  | .inl p => .inl p
  | .inr l => .inr (ts ++ l)
theorem pre_nil (r : Nat ⊕ List Tok) : pre [] r = r := by cases r <;> rfl
theorem pre_pre (ts us : List Tok) (r : Nat ⊕ List Tok) : pre ts (pre us r) = pre (ts ++ us) r := by
  cases r <;> simp [pre]

/-- The token at the beginning of xs, which stands at the place a. -/
def tokAt (xs : List Int) (a : Nat) : Tok := ⟨pieceK xs, strOfNums (xs.take (pieceN xs)), a⟩
def lexF : Nat → List Int → Nat → Nat ⊕ List Tok
  | 0, _, _ => .inr []
  | f + 1, xs, a =>
    if xs = [] then .inr []
    else if cls (el xs 0) = 1 then lexF f (xs.drop 1) (a + 1)
    else if pieceK xs = 0 then .inl a
    else pre [tokAt xs a] (lexF f (xs.drop (pieceN xs)) (a + pieceN xs))
theorem lexF_more : ∀ (f g : Nat) (xs : List Int) (a : Nat), xs.length ≤ f → xs.length ≤ g → lexF f xs a = lexF g xs a
  | 0, g, xs, a, hf, _ => by
    have : xs = [] := List.length_eq_zero_iff.1 (by omega)
    subst this
    cases g <;> rfl
  | f + 1, 0, xs, a, _, hg => by
    have : xs = [] := List.length_eq_zero_iff.1 (by omega)
    subst this
    rfl
  | f + 1, g + 1, xs, a, hf, hg => by
    simp only [lexF]
    by_cases h0 : xs = []
    · rw [if_pos h0, if_pos h0]
    rw [if_neg h0, if_neg h0]
    have hl : 0 < xs.length := List.length_pos_iff.2 h0
    have hp := pieceN_pos xs h0
    rw [lexF_more f g (xs.drop 1) (a + 1) (by rw [List.length_drop]; omega) (by rw [List.length_drop]; omega),
      lexF_more f g (xs.drop (pieceN xs)) (a + pieceN xs) (by rw [List.length_drop]; omega) (by rw [List.length_drop]; omega)]
/-- The tokens of a text that begins at the place a, but for the end's; or the place at which none begins. -/
def lex (xs : List Int) (a : Nat) : Nat ⊕ List Tok := lexF xs.length xs a
theorem lex_nil (a : Nat) : lex [] a = .inr [] := rfl
theorem lex_step (xs : List Int) (a : Nat) (h0 : xs ≠ []) :
    lex xs a = if cls (el xs 0) = 1 then lex (xs.drop 1) (a + 1) else if pieceK xs = 0 then .inl a else pre [tokAt xs a] (lex (xs.drop (pieceN xs)) (a + pieceN xs)) := by
  have hl : 0 < xs.length := List.length_pos_iff.2 h0
  have hp := pieceN_pos xs h0
  unfold lex
  rw [lexF_more xs.length (xs.length - 1 + 1) xs a (Nat.le_refl _) (by omega)]
  simp only [lexF]
  rw [if_neg h0, lexF_more (xs.length - 1) (xs.drop 1).length (xs.drop 1) (a + 1) (by rw [List.length_drop]; omega) (Nat.le_refl _),
    lexF_more (xs.length - 1) (xs.drop (pieceN xs)).length (xs.drop (pieceN xs)) (a + pieceN xs) (by rw [List.length_drop]; omega) (Nat.le_refl _)]
theorem lex_blank (xs : List Int) (a : Nat) (h0 : xs ≠ []) (h : cls (el xs 0) = 1) : lex xs a = lex (xs.drop 1) (a + 1) := by
  rw [lex_step xs a h0, if_pos h]
theorem lex_bad (xs : List Int) (a : Nat) (h0 : xs ≠ []) (h : cls (el xs 0) ≠ 1) (hk : pieceK xs = 0) : lex xs a = .inl a := by
  rw [lex_step xs a h0, if_neg h, if_pos hk]
theorem lex_tok (xs : List Int) (a : Nat) (h0 : xs ≠ []) (hk : pieceK xs ≠ 0) : lex xs a = pre [tokAt xs a] (lex (xs.drop (pieceN xs)) (a + pieceN xs)) := by
  rw [lex_step xs a h0, if_neg (ne_blank hk), if_neg hk]
theorem lex_skip : ∀ (n : Nat) (xs : List Int) (a : Nat), run [1] xs = n → lex xs a = lex (xs.drop n) (a + n)
  | 0, xs, a, _ => by simp
  | n + 1, xs, a, h => by
    cases xs with
    | nil => rw [run_nil] at h; omega
    | cons x r =>
      rw [run_cons] at h
      cases hx : isin [1] (cls x)
      · rw [hx] at h; simp at h
      · rw [hx] at h
        simp only [if_true] at h
        have hc : cls x = 1 := by unfold isin at hx; simpa using hx
        rw [lex_blank (x :: r) a (by simp) hc]
        have ih := lex_skip n r (a + 1) (by omega)
        simp only [List.drop_succ_cons, List.drop_zero]
        rw [ih]
        congr 1
        omega
/-- Behind blanks stands none. -/
theorem skip_edge (xs : List Int) (h : xs.drop (run [1] xs) ≠ []) : cls (el (xs.drop (run [1] xs)) 0) ≠ 1 := by
  induction xs with
  | nil => exact absurd rfl h
  | cons x r ih =>
    rw [run_cons] at h ⊢
    cases hx : isin [1] (cls x)
    · simp only [Bool.false_eq_true, if_false, List.drop_zero]
      intro hc
      have hc' : cls x = 1 := hc
      rw [hc'] at hx
      cases hx
    · rw [hx] at h
      simp only [if_true, List.drop_succ_cons] at h ⊢
      exact ih h

/-! ### Where tokens stand -/
def Placed : List Int → Nat → List Tok → Prop
  | xs, _, [] => ∀ x ∈ xs, cls x = 1
  | xs, a, t :: ts => ∃ j, (∀ x ∈ xs.take j, cls x = 1) ∧ xs.drop j ≠ [] ∧ pieceK (xs.drop j) ≠ 0 ∧ t = tokAt (xs.drop j) (a + j) ∧ Placed ((xs.drop j).drop (pieceN (xs.drop j))) (a + j + pieceN (xs.drop j)) ts
theorem placed_blank (xs : List Int) (a : Nat) (ts : List Tok) (h0 : xs ≠ []) (h : cls (el xs 0) = 1) (hp : Placed (xs.drop 1) (a + 1) ts) : Placed xs a ts := by
  cases xs with
  | nil => exact absurd rfl h0
  | cons x r =>
    have hx : cls x = 1 := h
    simp only [List.drop_succ_cons, List.drop_zero] at hp
    cases ts with
    | nil =>
      intro y hy
      rcases List.mem_cons.1 hy with rfl | hy
      · exact hx
      · exact hp y hy
    | cons t ts =>
      obtain ⟨j, h1, h2, h3, h4, h5⟩ := hp
      refine ⟨j + 1, ?_, ?_⟩
      · intro y hy
        rw [List.take_succ_cons] at hy
        rcases List.mem_cons.1 hy with rfl | hy
        · exact hx
        · exact h1 y hy
      · rw [List.drop_succ_cons, show a + (j + 1) = a + 1 + j from by omega]
        exact ⟨h2, h3, h4, h5⟩
theorem lex_placed : ∀ (n : Nat) (xs : List Int) (a : Nat) (ts : List Tok), xs.length ≤ n → lex xs a = .inr ts → Placed xs a ts
  | 0, xs, a, ts, hn, h => by
    have : xs = [] := List.length_eq_zero_iff.1 (by omega)
    subst this
    rw [lex_nil] at h
    injection h with h
    subst h
    intro x hx
    cases hx
  | n + 1, xs, a, ts, hn, h => by
    by_cases h0 : xs = []
    · subst h0
      rw [lex_nil] at h
      injection h with h
      subst h
      intro x hx
      cases hx
    have hl : 0 < xs.length := List.length_pos_iff.2 h0
    by_cases hc : cls (el xs 0) = 1
    · rw [lex_blank xs a h0 hc] at h
      exact placed_blank xs a ts h0 hc (lex_placed n _ _ _ (by rw [List.length_drop]; omega) h)
    by_cases hk : pieceK xs = 0
    · rw [lex_bad xs a h0 hc hk] at h
      cases h
    rw [lex_tok xs a h0 hk] at h
    have hp := pieceN_pos xs h0
    cases hr : lex (xs.drop (pieceN xs)) (a + pieceN xs) with
    | inl p => rw [hr] at h; cases h
    | inr us =>
      rw [hr] at h
      injection h with h
      rw [← h]
      refine ⟨0, by simp, by simpa using h0, by simpa using hk, by simp, ?_⟩
      have := lex_placed n _ _ us (by rw [List.length_drop]; omega) hr
      simpa using this
theorem placed_len : ∀ (ts : List Tok) (xs : List Int) (a : Nat), Placed xs a ts → ts.length ≤ xs.length
  | [], _, _, _ => Nat.zero_le _
  | t :: ts, xs, a, ⟨j, _, h2, _, _, h5⟩ => by
    have ih := placed_len ts _ _ h5
    have hp := pieceN_pos _ h2
    rw [List.length_drop, List.length_drop] at ih
    rw [List.length_drop] at hp
    simp only [List.length_cons]
    omega
theorem lex_len {xs : List Int} {a : Nat} {ts : List Tok} (h : lex xs a = .inr ts) : ts.length ≤ xs.length := placed_len ts xs a (lex_placed _ xs a ts (Nat.le_refl _) h)
end Token
end Go.Proofs.YtlmaphaipcfppaaGreatDoor
