/-Plain facts on texts that are cut into tokens: of no program. Rows of tokens, and what cutting a text comes to. The walks of the program's skip, lead, sign, and of what kind a text is. The walk of the program's Lex. Tokens' texts in memory. -/
import Derived.Test.YtadpjkehflokcaaGreatDoorGWordsA
import Derived.Laws.BytesArg
import Derived.Test.YtadpjkehflokcaaGreatDoorRows
import Derived.WalkKit
import Derived.OwnWalk
import Derived.Laws.AppendOwn
import Derived.Test.YtadpjkehflokcaaGreatDoorGWordsB
import Derived.Test.YtadpjkehflokcaaGreatDoorWordsShelf
namespace Go.Proofs.YtadpjkehflokcaaGreatDoor
namespace Token
open Chars (cls el isin run Bytes)
open Words (ints kwN nameB exnB numB)

/-! ### Bytes and their text -/
theorem str_ints (xs : List Int) (h : Bytes xs) : ints (strOfNums xs).data.toList = xs := by
  rw [strOfNums_data]
  unfold ints
  rw [List.map_map]
  conv => rhs; rw [← List.map_id xs]
  refine List.map_congr_left fun x hx => ?_
  have := h x hx
  simp
  omega
theorem el_take (xs : List Int) (n k : Nat) (h : k < n) : el (xs.take n) k = el xs k := by
  unfold el
  rw [List.getD_eq_getElem?_getD, List.getD_eq_getElem?_getD, List.getElem?_take, if_pos h]
theorem el_append (xs ys : List Int) (k : Nat) (h : k < xs.length) : el (xs ++ ys) k = el xs k := by
  unfold el
  rw [List.getD_eq_getElem?_getD, List.getD_eq_getElem?_getD, List.getElem?_append_left h]
theorem bytes_take {xs : List Int} (h : Bytes xs) (n : Nat) : Bytes (xs.take n) := fun x hx => h x (List.mem_of_mem_take hx)

/-! ### Spans -/
theorem run_nil (ys : List Int) : run ys [] = 0 := rfl
theorem run_cons (ys : List Int) (x : Int) (r : List Int) : run ys (x :: r) = if isin ys (cls x) = true then run ys r + 1 else 0 := by
  unfold run
  cases h : isin ys (cls x) <;> simp [h]
theorem run_pos (ys xs : List Int) (h0 : xs ≠ []) (h : isin ys (cls (el xs 0)) = true) : 0 < run ys xs := by
  cases xs with
  | nil => exact absurd rfl h0
  | cons x r =>
    have h' : isin ys (cls x) = true := h
    rw [run_cons, if_pos h']
    omega
theorem run_take (ys : List Int) : ∀ xs : List Int, run ys (xs.take (run ys xs)) = run ys xs
  | [] => rfl
  | x :: r => by
    have ih := run_take ys r
    rw [run_cons]
    cases h : isin ys (cls x)
    · simp [run_nil]
    · simp only [if_true, List.take_succ_cons, run_cons, h, ih]
/-- Nothing stands there, or a blank. -/
def Edge (zs : List Int) : Prop := zs = [] ∨ cls (el zs 0) = 1
theorem run_edge (ys zs : List Int) (hy : isin ys 1 = false) (hz : Edge zs) : run ys zs = 0 := by
  cases zs with
  | nil => rfl
  | cons z r =>
    have hc : cls z = 1 := by
      rcases hz with h | h
      · cases h
      · exact h
    rw [run_cons, hc, hy]
    rfl
theorem run_append (ys zs : List Int) (hy : isin ys 1 = false) (hz : Edge zs) : ∀ xs : List Int, run ys (xs ++ zs) = run ys xs
  | [] => by rw [List.nil_append, run_edge ys zs hy hz]; rfl
  | x :: r => by
    have ih := run_append ys zs hy hz r
    rw [List.cons_append, run_cons, run_cons, ih]

/-! ### One token -/
def digK (s : ByteArray) : Int := if numB s.data.toList = true then 1 else 0
def letK (s : ByteArray) : Int := if 0 < kwN s.data.toList then 4 else if nameB s = true then 2 else if exnB s = true then 3 else 0
/-- Is it one of the signs of two bytes? -/
def two (xs : List Int) : Bool := decide (1 < xs.length ∧ ((el xs 0 = 58 ∧ el xs 1 = 61) ∨ (el xs 0 = 61 ∧ el xs 1 = 62)))
/-- How many bytes the token has. -/
def pieceN (xs : List Int) : Nat :=
  if cls (el xs 0) = 2 then run [2] xs else if cls (el xs 0) = 3 ∨ cls (el xs 0) = 4 then run [3, 4, 2] xs else if two xs = true then 2 else 1
/-- Its kind; 0. -/
def pieceK (xs : List Int) : Int :=
  if cls (el xs 0) = 2 then digK (strOfNums (xs.take (run [2] xs)))
  else if cls (el xs 0) = 3 ∨ cls (el xs 0) = 4 then letK (strOfNums (xs.take (run [3, 4, 2] xs)))
  else if cls (el xs 0) = 5 then (if two xs = true then 5 else if el xs 0 = 58 ∨ el xs 0 = 62 then 0 else 5) else 0

theorem pieceK_range (xs : List Int) : 0 ≤ pieceK xs ∧ pieceK xs ≤ 5 := by
  unfold pieceK digK letK
  repeat' split
  all_goals omega
theorem two_len {xs : List Int} (h : two xs = true) : 1 < xs.length := by
  unfold two at h
  exact (of_decide_eq_true h).1
theorem pieceN_pos (xs : List Int) (h0 : xs ≠ []) : 0 < pieceN xs ∧ pieceN xs ≤ xs.length := by
  have hl : 0 < xs.length := List.length_pos_iff.2 h0
  unfold pieceN
  by_cases h2 : cls (el xs 0) = 2
  · rw [if_pos h2]
    exact ⟨run_pos _ _ h0 (by rw [h2]; rfl), Chars.run_le _ _⟩
  rw [if_neg h2]
  by_cases h3 : cls (el xs 0) = 3 ∨ cls (el xs 0) = 4
  · rw [if_pos h3]
    exact ⟨run_pos _ _ h0 (by rcases h3 with h | h <;> rw [h] <;> rfl), Chars.run_le _ _⟩
  rw [if_neg h3]
  cases ht : two xs
  · simp; omega
  · have := two_len ht
    simp; omega
theorem ne_blank {xs : List Int} (h : pieceK xs ≠ 0) : cls (el xs 0) ≠ 1 := by
  intro hc
  apply h
  unfold pieceK
  rw [hc, if_neg (by decide), if_neg (by decide), if_neg (by decide)]

/-- A token alone is that token. -/
theorem piece_take (xs : List Int) (h0 : xs ≠ []) : pieceN (xs.take (pieceN xs)) = pieceN xs ∧ pieceK (xs.take (pieceN xs)) = pieceK xs := by
  obtain ⟨hp, hle⟩ := pieceN_pos xs h0
  have he := el_take xs (pieceN xs) 0 hp
  by_cases h2 : cls (el xs 0) = 2
  · have hn : pieceN xs = run [2] xs := by unfold pieceN; rw [if_pos h2]
    rw [hn] at he ⊢
    have hr := run_take [2] xs
    constructor
    · unfold pieceN; rw [he, if_pos h2, hr]
    · unfold pieceK; rw [he, if_pos h2, hr, if_pos h2, List.take_take, Nat.min_self]
  by_cases h3 : cls (el xs 0) = 3 ∨ cls (el xs 0) = 4
  · have hn : pieceN xs = run [3, 4, 2] xs := by unfold pieceN; rw [if_neg h2, if_pos h3]
    rw [hn] at he ⊢
    have hr := run_take [3, 4, 2] xs
    constructor
    · unfold pieceN; rw [he, if_neg h2, if_pos h3, hr]
    · unfold pieceK; rw [he, if_neg h2, if_pos h3, hr, if_neg h2, if_pos h3, List.take_take, Nat.min_self]
  have hN : ∀ ys : List Int, el ys 0 = el xs 0 → pieceN ys = if two ys = true then 2 else 1 := fun ys h => by unfold pieceN; rw [h, if_neg h2, if_neg h3]
  have hK : ∀ ys : List Int, el ys 0 = el xs 0 → pieceK ys = if cls (el xs 0) = 5 then (if two ys = true then 5 else if el xs 0 = 58 ∨ el xs 0 = 62 then 0 else 5) else 0 := fun ys h => by unfold pieceK; rw [h, if_neg h2, if_neg h3]
  have hn := hN xs rfl
  rw [hn] at he hp hle ⊢
  cases ht : two xs
  · rw [ht] at he
    have h1 : two (xs.take 1) = false := by
      unfold two
      exact decide_eq_false fun h => by have := h.1; rw [List.length_take] at this; omega
    simp only [Bool.false_eq_true, if_false] at he ⊢
    rw [hN _ he, hK _ he, hK _ rfl, h1, ht]
    exact ⟨rfl, rfl⟩
  · rw [ht] at he
    have hl := two_len ht
    have e0 := el_take xs 2 0 (by omega)
    have e1 := el_take xs 2 1 (by omega)
    have h1 : two (xs.take 2) = true := by
      unfold two at ht ⊢
      have := of_decide_eq_true ht
      rw [e0, e1, List.length_take]
      exact decide_eq_true ⟨by omega, this.2⟩
    simp only [if_true] at he ⊢
    rw [hN _ he, hK _ he, hK _ rfl, h1, ht]
    exact ⟨rfl, rfl⟩

/-- What stands behind a blank plays no part in the token ahead. -/
theorem piece_edge (xs zs : List Int) (h0 : xs ≠ []) (hz : Edge zs) : pieceN (xs ++ zs) = pieceN xs ∧ pieceK (xs ++ zs) = pieceK xs := by
  have hl : 0 < xs.length := List.length_pos_iff.2 h0
  have he := el_append xs zs 0 hl
  have hr2 := run_append [2] zs (by decide) hz xs
  have hr3 := run_append [3, 4, 2] zs (by decide) hz xs
  have hle2 := Chars.run_le [2] xs
  have hle3 := Chars.run_le [3, 4, 2] xs
  have ht : two (xs ++ zs) = two xs := by
    unfold two
    rw [he, decide_eq_decide]
    by_cases h1 : 1 < xs.length
    · rw [el_append xs zs 1 h1, List.length_append]
      exact ⟨fun h => ⟨h1, h.2⟩, fun h => ⟨by omega, h.2⟩⟩
    · refine ⟨fun h => ?_, fun h => absurd h.1 h1⟩
      exfalso
      have h1' : xs.length = 1 := by omega
      rcases hz with rfl | hz
      · rw [List.append_nil] at h; exact h1 h.1
      · have : el (xs ++ zs) 1 = el zs 0 := by
          unfold el
          rw [List.getD_eq_getElem?_getD, List.getD_eq_getElem?_getD, List.getElem?_append_right (by omega), h1']
        rw [this] at h
        have hc : ∀ c : Int, c = 61 ∨ c = 62 → cls c ≠ 1 := by
          intro c hc
          rcases hc with rfl | rfl <;> decide
        rcases h.2 with ⟨_, h⟩ | ⟨_, h⟩
        · exact hc _ (.inl h) hz
        · exact hc _ (.inr h) hz
  constructor
  · unfold pieceN
    rw [he, hr2, hr3, ht]
  · unfold pieceK
    rw [he, hr2, hr3, ht, List.take_append_of_le_length hle2, List.take_append_of_le_length hle3]

/-! ### A text -/
structure Tok where
  k : Int
  s : ByteArray
  a : Nat

def pre (ts : List Tok) : Nat ⊕ List Tok → Nat ⊕ List Tok
  | .inl p => .inl p
  | .inr l => .inr (ts ++ l)
theorem pre_nil (r : Nat ⊕ List Tok) : pre [] r = r := by cases r <;> rfl
theorem pre_pre (ts us : List Tok) (r : Nat ⊕ List Tok) : pre ts (pre us r) = pre (ts ++ us) r := by
  cases r <;> simp [pre]

/-- The token at the beginning of xs, which stands at the place a. -/
def tokAt (xs : List Int) (a : Nat) : Tok := ⟨pieceK xs, strOfNums (xs.take (pieceN xs)), a⟩
def lexF : Nat → List Int → Nat → Nat ⊕ List Tok
  | 0, _, _ => .inr []
  | f + 1, xs, a =>
    if xs = [] then .inr []
    else if cls (el xs 0) = 1 then lexF f (xs.drop 1) (a + 1)
    else if pieceK xs = 0 then .inl a
    else pre [tokAt xs a] (lexF f (xs.drop (pieceN xs)) (a + pieceN xs))
theorem lexF_more : ∀ (f g : Nat) (xs : List Int) (a : Nat), xs.length ≤ f → xs.length ≤ g → lexF f xs a = lexF g xs a
  | 0, g, xs, a, hf, _ => by
    have : xs = [] := List.length_eq_zero_iff.1 (by omega)
    subst this
    cases g <;> rfl
  | f + 1, 0, xs, a, _, hg => by
    have : xs = [] := List.length_eq_zero_iff.1 (by omega)
    subst this
    rfl
  | f + 1, g + 1, xs, a, hf, hg => by
    simp only [lexF]
    by_cases h0 : xs = []
    · rw [if_pos h0, if_pos h0]
    rw [if_neg h0, if_neg h0]
    have hl : 0 < xs.length := List.length_pos_iff.2 h0
    have hp := pieceN_pos xs h0
    rw [lexF_more f g (xs.drop 1) (a + 1) (by rw [List.length_drop]; omega) (by rw [List.length_drop]; omega),
      lexF_more f g (xs.drop (pieceN xs)) (a + pieceN xs) (by rw [List.length_drop]; omega) (by rw [List.length_drop]; omega)]
/-- The tokens of a text that begins at the place a, but for the end's; or the place at which none begins. -/
def lex (xs : List Int) (a : Nat) : Nat ⊕ List Tok := lexF xs.length xs a
theorem lex_nil (a : Nat) : lex [] a = .inr [] := rfl
theorem lex_step (xs : List Int) (a : Nat) (h0 : xs ≠ []) :
    lex xs a = if cls (el xs 0) = 1 then lex (xs.drop 1) (a + 1) else if pieceK xs = 0 then .inl a else pre [tokAt xs a] (lex (xs.drop (pieceN xs)) (a + pieceN xs)) := by
  have hl : 0 < xs.length := List.length_pos_iff.2 h0
  have hp := pieceN_pos xs h0
  unfold lex
  rw [lexF_more xs.length (xs.length - 1 + 1) xs a (Nat.le_refl _) (by omega)]
  simp only [lexF]
  rw [if_neg h0, lexF_more (xs.length - 1) (xs.drop 1).length (xs.drop 1) (a + 1) (by rw [List.length_drop]; omega) (Nat.le_refl _),
    lexF_more (xs.length - 1) (xs.drop (pieceN xs)).length (xs.drop (pieceN xs)) (a + pieceN xs) (by rw [List.length_drop]; omega) (Nat.le_refl _)]
theorem lex_blank (xs : List Int) (a : Nat) (h0 : xs ≠ []) (h : cls (el xs 0) = 1) : lex xs a = lex (xs.drop 1) (a + 1) := by
  rw [lex_step xs a h0, if_pos h]
theorem lex_bad (xs : List Int) (a : Nat) (h0 : xs ≠ []) (h : cls (el xs 0) ≠ 1) (hk : pieceK xs = 0) : lex xs a = .inl a := by
  rw [lex_step xs a h0, if_neg h, if_pos hk]
theorem lex_tok (xs : List Int) (a : Nat) (h0 : xs ≠ []) (hk : pieceK xs ≠ 0) : lex xs a = pre [tokAt xs a] (lex (xs.drop (pieceN xs)) (a + pieceN xs)) := by
  rw [lex_step xs a h0, if_neg (ne_blank hk), if_neg hk]
theorem lex_skip : ∀ (n : Nat) (xs : List Int) (a : Nat), run [1] xs = n → lex xs a = lex (xs.drop n) (a + n)
  | 0, xs, a, _ => by simp
  | n + 1, xs, a, h => by
    cases xs with
    | nil => rw [run_nil] at h; omega
    | cons x r =>
      rw [run_cons] at h
      cases hx : isin [1] (cls x)
      · rw [hx] at h; simp at h
      · rw [hx] at h
        simp only [if_true] at h
        have hc : cls x = 1 := by unfold isin at hx; simpa using hx
        rw [lex_blank (x :: r) a (by simp) hc]
        have ih := lex_skip n r (a + 1) (by omega)
        simp only [List.drop_succ_cons, List.drop_zero]
        rw [ih]
        congr 1
        omega
/-- Behind blanks stands none. -/
theorem skip_edge (xs : List Int) (h : xs.drop (run [1] xs) ≠ []) : cls (el (xs.drop (run [1] xs)) 0) ≠ 1 := by
  induction xs with
  | nil => exact absurd rfl h
  | cons x r ih =>
    rw [run_cons] at h ⊢
    cases hx : isin [1] (cls x)
    · simp only [Bool.false_eq_true, if_false, List.drop_zero]
      intro hc
      have hc' : cls x = 1 := hc
      rw [hc'] at hx
      cases hx
    · rw [hx] at h
      simp only [if_true, List.drop_succ_cons] at h ⊢
      exact ih h

/-! ### Where tokens stand -/
def Placed : List Int → Nat → List Tok → Prop
  | xs, _, [] => ∀ x ∈ xs, cls x = 1
  | xs, a, t :: ts => ∃ j, (∀ x ∈ xs.take j, cls x = 1) ∧ xs.drop j ≠ [] ∧ pieceK (xs.drop j) ≠ 0 ∧ t = tokAt (xs.drop j) (a + j) ∧ Placed ((xs.drop j).drop (pieceN (xs.drop j))) (a + j + pieceN (xs.drop j)) ts
theorem placed_blank (xs : List Int) (a : Nat) (ts : List Tok) (h0 : xs ≠ []) (h : cls (el xs 0) = 1) (hp : Placed (xs.drop 1) (a + 1) ts) : Placed xs a ts := by
  cases xs with
  | nil => exact absurd rfl h0
  | cons x r =>
    have hx : cls x = 1 := h
    simp only [List.drop_succ_cons, List.drop_zero] at hp
    cases ts with
    | nil =>
      intro y hy
      rcases List.mem_cons.1 hy with rfl | hy
      · exact hx
      · exact hp y hy
    | cons t ts =>
      obtain ⟨j, h1, h2, h3, h4, h5⟩ := hp
      refine ⟨j + 1, ?_, ?_⟩
      · intro y hy
        rw [List.take_succ_cons] at hy
        rcases List.mem_cons.1 hy with rfl | hy
        · exact hx
        · exact h1 y hy
      · rw [List.drop_succ_cons, show a + (j + 1) = a + 1 + j from by omega]
        exact ⟨h2, h3, h4, h5⟩
theorem lex_placed : ∀ (n : Nat) (xs : List Int) (a : Nat) (ts : List Tok), xs.length ≤ n → lex xs a = .inr ts → Placed xs a ts
  | 0, xs, a, ts, hn, h => by
    have : xs = [] := List.length_eq_zero_iff.1 (by omega)
    subst this
    rw [lex_nil] at h
    injection h with h
    subst h
    intro x hx
    cases hx
  | n + 1, xs, a, ts, hn, h => by
    by_cases h0 : xs = []
    · subst h0
      rw [lex_nil] at h
      injection h with h
      subst h
      intro x hx
      cases hx
    have hl : 0 < xs.length := List.length_pos_iff.2 h0
    by_cases hc : cls (el xs 0) = 1
    · rw [lex_blank xs a h0 hc] at h
      exact placed_blank xs a ts h0 hc (lex_placed n _ _ _ (by rw [List.length_drop]; omega) h)
    by_cases hk : pieceK xs = 0
    · rw [lex_bad xs a h0 hc hk] at h
      cases h
    rw [lex_tok xs a h0 hk] at h
    have hp := pieceN_pos xs h0
    cases hr : lex (xs.drop (pieceN xs)) (a + pieceN xs) with
    | inl p => rw [hr] at h; cases h
    | inr us =>
      rw [hr] at h
      injection h with h
      rw [← h]
      refine ⟨0, by simp, by simpa using h0, by simpa using hk, by simp, ?_⟩
      have := lex_placed n _ _ us (by rw [List.length_drop]; omega) hr
      simpa using this
theorem placed_len : ∀ (ts : List Tok) (xs : List Int) (a : Nat), Placed xs a ts → ts.length ≤ xs.length
  | [], _, _, _ => Nat.zero_le _
  | t :: ts, xs, a, ⟨j, _, h2, _, _, h5⟩ => by
    have ih := placed_len ts _ _ h5
    have hp := pieceN_pos _ h2
    rw [List.length_drop, List.length_drop] at ih
    rw [List.length_drop] at hp
    simp only [List.length_cons]
    omega
theorem lex_len {xs : List Int} {a : Nat} {ts : List Tok} (h : lex xs a = .inr ts) : ts.length ≤ xs.length := placed_len ts xs a (lex_placed _ xs a ts (Nat.le_refl _) h)
end Token
end Go.Proofs.YtadpjkehflokcaaGreatDoor
namespace Go.Proofs.YtadpjkehflokcaaGreatDoor
open Go.RowKit
namespace Token

/-- The cells of tokens. -/
def tcell (t : Tok) : List Value := [.int .u8 t.k, .string t.s, .int .i64 t.a]
def tcells (ts : List Tok) : List Value := ts.flatMap tcell
theorem tcells_snoc (ts : List Tok) (t : Tok) : tcells (ts ++ [t]) = tcells ts ++ tcell t := by simp [tcells]
theorem tcells_len : ∀ ts : List Tok, (tcells ts).length = ts.length * 3
  | [] => rfl
  | t :: ts => by
    have ih := tcells_len ts
    unfold tcells at ih ⊢
    rw [List.flatMap_cons, List.length_append, ih]
    simp [tcell]
    omega
/-- Token i. -/
def tel (ts : List Tok) (i : Nat) : Tok := ts.getD i ⟨0, ByteArray.empty, 0⟩
theorem tel_cons (t : Tok) (ts : List Tok) (i : Nat) : tel (t :: ts) (i + 1) = tel ts i := rfl
theorem tcells_get : ∀ (ts : List Tok) (i : Nat), i < ts.length → (tcells ts)[i * 3]? = some (.int .u8 (tel ts i).k) ∧ (tcells ts)[i * 3 + 1]? = some (.string (tel ts i).s) ∧ (tcells ts)[i * 3 + 2]? = some (.int .i64 (tel ts i).a)
  | [], i, h => by simp at h
  | t :: ts, 0, _ => by simp [tcells, tcell, tel]
  | t :: ts, i + 1, h => by
    have ih := tcells_get ts i (by simpa using h)
    have e : ∀ j, (tcells (t :: ts))[(i + 1) * 3 + j]? = (tcells ts)[i * 3 + j]? := by
      intro j
      unfold tcells
      rw [List.flatMap_cons, show (i + 1) * 3 + j = 3 + (i * 3 + j) from by omega]
      rw [List.getElem?_append_right (by simp [tcell])]
      simp [tcell]
    rw [tel_cons]
    exact ⟨(e 0).trans ih.1, (e 1).trans ih.2.1, (e 2).trans ih.2.2⟩

/-- A slice's tokens, in block g from its beginning on. -/
def ToksAt (w : World) (g : Nat) (ts : List Tok) : Prop :=
  ∀ i, i < ts.length → w.cell? ⟨g, i * 3, none⟩ = some (.int .u8 (tel ts i).k) ∧ w.cell? ⟨g, i * 3 + 1, none⟩ = some (.string (tel ts i).s) ∧ w.cell? ⟨g, i * 3 + 2, none⟩ = some (.int .i64 (tel ts i).a)
theorem ToksAt.below {w W : World} {g : Nat} {ts : List Tok} (h : ToksAt w g ts) (hb : Below w.heap.size w W) : ToksAt W g ts := by
  intro i hi
  obtain ⟨h0, h1, h2⟩ := h i hi
  have hl : g < w.heap.size := World.block_lt_of_cell? w _ h0
  exact ⟨(hb.cell (p := ⟨g, i * 3, none⟩) hl).trans h0, (hb.cell (p := ⟨g, i * 3 + 1, none⟩) hl).trans h1, (hb.cell (p := ⟨g, i * 3 + 2, none⟩) hl).trans h2⟩
theorem add_plain (g j : Nat) : (⟨g, 0, none⟩ : Addr).add j = ⟨g, j, none⟩ := by unfold Addr.add; split <;> simp_all
theorem toks_of_own {w : World} {B : Nat} {e : TypeId} {v : Value} {ts : List Tok} (h : w.ownsRow B e 3 v ts.length (tcells ts)) (h0 : 0 < ts.length) :
    ∃ g c, v = .slice (some ⟨g, 0, none⟩) ts.length c ∧ ToksAt w g ts ∧ ts.length ≤ c ∧ c ≤ maxLen := by
  rcases h.2 with ⟨_, hz⟩ | ⟨g, cap, cur, hv, _, _, hnc, hcm, _, _⟩
  · omega
  · refine ⟨g, cap, hv, fun i hi => ?_, hnc, hcm⟩
    have hc := h.cells (g := g) (by rw [hv]; rfl)
    obtain ⟨h0, h1, h2⟩ := tcells_get ts i hi
    have a0 := hc _ _ h0; have a1 := hc _ _ h1; have a2 := hc _ _ h2
    rw [add_plain] at a0 a1 a2
    exact ⟨a0, a1, a2⟩

/-- The end's token. -/
def endT (n : Nat) : Tok := ⟨6, ⟨#[]⟩, n⟩
/-- What Lex comes to, the program's and the document's. -/
def LexEnd (xs : List Int) (w : World) (e : Ending) (w' : World) : Prop :=
  Below w.heap.size w w' ∧
  ((65536 < xs.length ∧ ∃ p c, e = .returned (.tuple #[.slice p 0 c, .int .i64 0, .int .i64 3])) ∨
   (xs.length ≤ 65536 ∧ ∃ p c, ∃ k : Nat, lex xs 0 = .inl k ∧ e = .returned (.tuple #[.slice p 0 c, .int .i64 k, .int .i64 2])) ∨
   (xs.length ≤ 65536 ∧ ∃ ts g c, lex xs 0 = .inr ts ∧ e = .returned (.tuple #[.slice (some ⟨g, 0, none⟩) (ts.length + 1) c, .int .i64 0, .int .i64 0]) ∧ ToksAt w' g (ts ++ [endT xs.length]) ∧ ts.length + 1 ≤ c ∧ c ≤ maxLen))

theorem infoTok : (Tryz.prog.info? 46).map (fun i => (i.zero, i.size, i.bytes)) = some (some (.agg #[.int .u8 0, .string ⟨#[]⟩, .int .i64 0]), 3, 32) := by kernel_rfl

theorem three_new (w : World) (x y z : Value) (t : TypeId) : ∀ j u, [x, y, z][j]? = some u → (w.alloc (.cells #[x, y, z] t)).cell? ((⟨w.heap.size, 0, none⟩ : Addr).add j) = some u := by
  intro j u hj
  match j, hj with
  | 0, hj => simp at hj; subst hj; simp [Addr.add]
  | 1, hj => simp at hj; subst hj; simp [Addr.add]
  | 2, hj => simp at hj; subst hj; simp [Addr.add]
  | (j + 3), hj => simp at hj

theorem own_below {w W : World} {B e size n : Nat} {v : Value} {xs : List Value} (h : w.ownsRow B e size v n xs) (hb : Below w.heap.size w W) : W.ownsRow B e size v n xs :=
  h.kept (row := none) ⟨hb.os, hb.tape, hb.output, hb.size, fun q hq _ => hb.block q hq⟩ (by cases v.ownBlock <;> simp)
/-- Behind an append of a token that lies in a block of its own. -/
theorem after_append {w w2 w3 : World} {B e n : Nat} {t : TypeId} {v0 v1 v2 v : Value} {xs : List Value} {O : Obj} (hB : B ≤ w2.heap.size) (hbw : Below B w w2) (hown : w2.ownsRow B e 3 v n xs)
    (hg : ((w2.alloc (.cells #[v0, v1, v2] t)).alloc O).grownBy w3 v.ownBlock) : Below B w w3 ∧ w3.cell? ⟨w2.heap.size, 1, none⟩ = some v1 := by
  refine ⟨((hbw.alloc hB _).alloc (by simp; omega) _).grown hg (by simp; omega) (fun q hq => (hown.lt q hq).1), ?_⟩
  refine hg.cell (a := ⟨w2.heap.size, 1, none⟩) ?_ (fun e => by have := (hown.lt _ e.symm).2; simp at this)
  rw [World.cell?_alloc_lt _ _ _ (by simp)]
  simp [go_sem]
theorem drop_len (xs : List Int) (k n : Nat) (h : xs.length = n) : (xs.drop k).length = n - k := by rw [List.length_drop, h]

end Token
end Go.Proofs.YtadpjkehflokcaaGreatDoor
namespace Go.Proofs.YtadpjkehflokcaaGreatDoor
open Go.RowKit
namespace Token
open Chars (ret_i64 ret_bool ret_u8 cls el isin run spanI BytesAt Bytes bytes_new)
open Words (KwLaid NumLaid Laid2 NumEnd numV numB kwN nameB exnB)

/-- A slice of bytes, as a walk sees it. -/
def BytesIn (w : World) (p : Option Addr) (n d : Nat) (xs : List Int) : Prop := xs.length = n ∧ n ≤ d ∧ d ≤ maxLen ∧ BytesAt w p xs ∧ Bytes xs
theorem BytesIn.below {w W : World} {p : Option Addr} {n d : Nat} {xs : List Int} (h : BytesIn w p n d xs) (hb : Below w.heap.size w W) : BytesIn W p n d xs :=
  ⟨h.1, h.2.1, h.2.2.1, h.2.2.2.1.below hb, h.2.2.2.2⟩
theorem BytesIn.len {w : World} {p : Option Addr} {n d : Nat} {xs : List Int} (h : BytesIn w p n d xs) : n ≤ 9223372036854775807 ∧ d ≤ 9223372036854775807 := by
  have h1 := h.2.1; have h2 := h.2.2.1
  unfold maxLen at h2
  omega

theorem span_at (ys xs : List Int) (k : Nat) (hk : k ≤ xs.length) : spanI ys xs k = (run ys (xs.drop k) : Nat) := by
  unfold spanI
  by_cases h : k < xs.length
  · rw [if_pos (by omega), Int.toNat_natCast]
  · rw [if_neg (by omega), List.drop_eq_nil_of_le (by omega)]
    rfl
theorem run_at_le (ys xs : List Int) (k : Nat) (hk : k ≤ xs.length) : k + run ys (xs.drop k) ≤ xs.length := by
  have := Chars.run_le ys (xs.drop k)
  rw [List.length_drop] at this
  omega

theorem skip_walk (p : Option Addr) (n d k : Nat) (xs : List Int) (w : World) (hb : BytesIn w p n d xs) (hk : k ≤ n) :
    Calls Tryz.prog 76 #[.slice p n d, .int .i64 k] w fun e w' => e = .returned (.int .i64 ((k + run [1] (xs.drop k) : Nat) : Int)) ∧ Below w.heap.size w w' := by
  have hl := hb.len
  have hs := span_at [1] xs k (by rw [hb.1]; exact hk)
  have hrl := run_at_le [1] xs k (by rw [hb.1]; exact hk)
  rw [hb.1] at hrl
  have HB := Lib.hid hb; have HS := Lib.hid hs
  clear hb hs
  go_enter Tryz.func76, Tryz.ntmps76
  go_wp2_with (fail)
  refine (Chars.span_walk p n d xs k _ 1 1 [1] _ HB.out.1 HB.out.2.1 HB.out.2.2.1 ?_ HB.out.2.2.2.2 rfl (by unfold maxLen; omega) ?_).mono ?_
  · exact HB.out.2.2.2.1.below ((Below.refl _ _).alloc (Nat.le_refl _) _)
  · exact bytes_new _ _ _ _ _ _ rfl rfl
  rintro e w' ⟨rfl, hb2⟩
  have HB2 := Lib.hid (((Below.refl _ _).alloc (Nat.le_refl _) _).trans (hb2.mono (by simp : w.heap.size ≤ _))); clear hb2
  rw [HS.out]
  go_wp2
  go_ret
  exact ⟨ret_i64 (by omega), HB2.out⟩

/-- The text of r bytes from the place k on. -/
theorem cut_text (w : World) (b o r c : Nat) (xs : List Int) (k : Nat) (hc : ∀ i, i < xs.length → w.cell? ⟨b, o + i, none⟩ = some (.int .u8 (xs.getD i 0))) (hr : k + r ≤ xs.length) :
    (convert 22 9 (.slice (some ⟨b, o + k, none⟩) r c)).run Tryz.prog w = .ok (.string (strOfNums ((xs.drop k).take r))) w := by
  refine run_convert_bytes_arg (P := Tryz.prog) w 22 5 Tryz.underlying22 Tryz.underlying5 b (o + k) r c ((xs.drop k).take r) (by rw [List.length_take, List.length_drop]; omega) (fun i hi => ?_) 9 Tryz.underlying9
  rw [show o + k + i = o + (k + i) from by omega, hc (k + i) (by omega)]
  rw [List.getD_eq_getElem?_getD, List.getD_eq_getElem?_getD, List.getElem?_take, if_pos hi, List.getElem?_drop]
theorem BytesAt.cells {w : World} {p : Option Addr} {xs : List Int} (h : BytesAt w p xs) (h0 : 0 < xs.length) : ∃ b o, p = some ⟨b, o, none⟩ ∧ ∀ i, i < xs.length → w.cell? ⟨b, o + i, none⟩ = some (.int .u8 (xs.getD i 0)) := by
  rcases h with rfl | h
  · simp at h0
  · exact h
theorem ret_str {a b : ByteArray} (h : a = b) : Ending.returned (.string a) = .returned (.string b) := by rw [h]

theorem lead_walk (p q : Option Addr) (n d k m d2 : Nat) (xs ys : List Int) (w : World) (hb : BytesIn w p n d xs) (hk : k < n) (hy : ys.length = m) (hm : m ≤ maxLen) (hq : BytesAt w q ys) :
    Calls Tryz.prog 106 #[.slice p n d, .int .i64 k, .slice q m d2] w fun e w' => e = .returned (.string (strOfNums ((xs.drop k).take (run ys (xs.drop k))))) ∧ Below w.heap.size w w' := by
  have hl := hb.len
  have hnd := hb.2.1
  have hs := span_at ys xs k (by rw [hb.1]; omega)
  have hrl := run_at_le ys xs k (by rw [hb.1]; omega)
  rw [hb.1] at hrl
  obtain ⟨b, o, rfl, hc⟩ := BytesAt.cells hb.2.2.2.1 (by rw [hb.1]; omega)
  have HB := Lib.hid hb; have HS := Lib.hid hs; have HY := Lib.hid hy; have HM := Lib.hid hm; have HQ := Lib.hid hq
  clear hb hs hy hm hq hc
  go_enter Tryz.func106, Tryz.ntmps106
  go_wp2_with (fail)
  refine (Chars.span_walk _ n d xs k q m d2 ys _ HB.out.1 HB.out.2.1 HB.out.2.2.1 HB.out.2.2.2.1 HB.out.2.2.2.2 HY.out HM.out HQ.out).mono ?_
  rintro e w' ⟨rfl, hb2⟩
  have hat := HB.out.2.2.2.1.below hb2
  obtain ⟨b', o', he, hc⟩ := BytesAt.cells hat (by rw [HB.out.1]; omega)
  obtain ⟨rfl, rfl⟩ : b = b' ∧ o = o' := by simpa using he
  have hcv := cut_text w' b o (run ys (xs.drop k)) (d - k) xs k hc (by rw [HB.out.1]; exact hrl)
  have HB2 := Lib.hid hb2; clear hb2 hat hc he
  rw [HS.out]
  obtain ⟨r, hr⟩ : ∃ r, r = run ys (xs.drop k) := ⟨_, rfl⟩
  rw [← hr] at hcv hrl ⊢
  have HR := Lib.hid hr
  clear HS hr
  go_wp2
  go_ret
  exact ⟨ret_str (by rw [HR.out]), HB2.out⟩

theorem ret_u8' {a b : Int} (h : a = b) : Ending.returned (.int .u8 a) = .returned (.int .u8 b) := by rw [h]
theorem digitsKind_walk (s : ByteArray) (w : World) (hs : s.size ≤ 1000000) (hl : NumLaid w) :
    Calls Tryz.prog 107 #[.string s] w fun e w' => e = .returned (.int .u8 (digK s)) ∧ Below w.heap.size w w' := by
  have HL := Lib.hid hl; clear hl
  cases hn : numB s.data.toList
  all_goals
    have hd : digK s = if numB s.data.toList = true then 1 else 0 := rfl
    rw [hn] at hd
    have HD := Lib.hid hd; have HN := Lib.hid hn
    clear hd hn
    go_enter Tryz.func107, Tryz.ntmps107
    go_wp2_with (fail)
    refine (Words.number_walk s _ hs HL.out).mono ?_
    rintro e w1 ⟨he, hb⟩
    unfold NumEnd at he
    rw [HN.out] at he
    subst he
    have HB := Lib.hid hb; clear hb
    generalize numV s.data.toList = V
    go_wp2
    go_ret
    exact ⟨ret_u8' HD.out.symm, HB.out⟩

theorem lettersKind_walk (s : ByteArray) (w : World) (hs : s.size ≤ maxLen) (hl : KwLaid w) :
    Calls Tryz.prog 108 #[.string s] w fun e w' => e = .returned (.int .u8 (letK s)) ∧ Below w.heap.size w w' := by
  have HL := Lib.hid hl; have HZ := Lib.hid hs
  clear hl hs
  by_cases hk : 0 < kwN s.data.toList
  · have hr : letK s = 4 := by unfold letK; rw [if_pos hk]
    have HR := Lib.hid hr; clear hr
    have hk' : (0 : Int) < (kwN s.data.toList : Nat) := by omega
    clear hk
    go_enter Tryz.func108, Tryz.ntmps108
    go_wp2_with (fail)
    refine (Words.keyword_walk s _ HL.out).mono ?_
    rintro e w1 ⟨rfl, rfl⟩
    go_wp2
    go_ret
    exact ⟨ret_u8' HR.out.symm, Below.refl _ _⟩
  have hk' : ¬ (0 : Int) < (kwN s.data.toList : Nat) := by omega
  cases hn : nameB s
  · cases he : exnB s
    all_goals
      have hr : letK s = if exnB s = true then 3 else 0 := by unfold letK; rw [if_neg hk, hn]; rfl
      rw [he] at hr
      have HR := Lib.hid hr; have HN := Lib.hid hn; have HE := Lib.hid he; have HK := Lib.hid hk
      clear hr hn he hk
      go_enter Tryz.func108, Tryz.ntmps108
      go_wp2_with (fail)
      refine (Words.keyword_walk s _ HL.out).mono ?_
      rintro e w1 ⟨rfl, rfl⟩
      go_wp2_with (fail)
      refine (Words.name_one s _ _ HZ.out HL.out).mono ?_
      rw [HN.out]
      rintro e w2 ⟨rfl, hb⟩
      have HB := Lib.hid hb; clear hb
      go_wp2_with (fail)
      refine (Words.exn_one s _ _ HZ.out).mono ?_
      rw [HE.out]
      rintro e w3 ⟨rfl, hb⟩
      have HB2 := Lib.hid (HB.out.trans (hb.mono HB.out.size)); clear hb
      go_wp2
      go_ret
      exact ⟨ret_u8' HR.out.symm, HB2.out⟩
  · have hr : letK s = 2 := by unfold letK; rw [if_neg hk, hn]; rfl
    have HR := Lib.hid hr; have HN := Lib.hid hn; have HK := Lib.hid hk
    clear hr hn hk
    go_enter Tryz.func108, Tryz.ntmps108
    go_wp2_with (fail)
    refine (Words.keyword_walk s _ HL.out).mono ?_
    rintro e w1 ⟨rfl, rfl⟩
    go_wp2_with (fail)
    refine (Words.name_one s _ _ HZ.out HL.out).mono ?_
    rw [HN.out]
    rintro e w2 ⟨rfl, hb⟩
    have HB := Lib.hid hb; clear hb
    go_wp2
    go_ret
    exact ⟨ret_u8' HR.out.symm, HB.out⟩

/-- Is a text of one byte one of the signs that stand alone? -/
theorem alone_iff (c : Int) (h0 : 0 ≤ c) (h1 : c ≤ 255) (h5 : cls c = 5) : (0 ≤ Lib.indexByte [40, 41, 44, 33, 61, 43, 45, 42, 60, 59] (UInt8.ofNat c.toNat)) ↔ ¬ (c = 58 ∨ c = 62) := by
  have hm : c ∈ [40, 41, 44, 33, 58, 61, 62, 43, 45, 42, 60, 59] := by
    unfold cls at h5
    split at h5
    · omega
    split at h5
    · omega
    split at h5
    · omega
    split at h5
    · omega
    split at h5
    · assumption
    · omega
  simp only [List.mem_cons, List.not_mem_nil, or_false] at hm
  rcases hm with rfl | rfl | rfl | rfl | rfl | rfl | rfl | rfl | rfl | rfl | rfl | rfl <;> decide +kernel

theorem signKind_one (c : UInt8) (w : World) :
    Calls Tryz.prog 110 #[.string ⟨#[c]⟩] w fun e w' => e = .returned (.int .u8 (if 0 ≤ Lib.indexByte [40, 41, 44, 33, 61, 43, 45, 42, 60, 59] c then 5 else 0)) ∧ w = w' := by
  have hcn := fun W => Tryz.strings_Contains_one ⟨#[40, 41, 44, 33, 61, 43, 45, 42, 60, 59]⟩ c W
  have hsz : (⟨#[c]⟩ : ByteArray).size = 1 := rfl
  have HC := Lib.hid hcn
  generalize hT : (⟨#[c]⟩ : ByteArray) = T at *
  have HT := Lib.hid hT
  clear hcn hT
  by_cases hi : 0 ≤ Lib.indexByte [40, 41, 44, 33, 61, 43, 45, 42, 60, 59] c
  · have hd : decide (0 ≤ Lib.indexByte [40, 41, 44, 33, 61, 43, 45, 42, 60, 59] c) = true := decide_eq_true hi
    rw [if_pos hi]
    have HD := Lib.hid hd
    clear hd hi
    go_enter Tryz.func110, Tryz.ntmps110
    go_wp2_with (fail)
    refine (HC.out _).mono ?_
    rintro e w1 ⟨rfl, hw⟩
    have e2 : decide (0 ≤ Lib.indexByte (⟨#[40, 41, 44, 33, 61, 43, 45, 42, 60, 59]⟩ : ByteArray).data.toList c) = true := HD.out
    rw [e2]
    obtain rfl := hw
    go_wp2
    go_ret
    exact ⟨rfl, rfl⟩
  · have hd : decide (0 ≤ Lib.indexByte [40, 41, 44, 33, 61, 43, 45, 42, 60, 59] c) = false := decide_eq_false hi
    rw [if_neg hi]
    have HD := Lib.hid hd
    clear hd hi
    go_enter Tryz.func110, Tryz.ntmps110
    go_wp2_with (fail)
    refine (HC.out _).mono ?_
    rintro e w1 ⟨rfl, hw⟩
    have e2 : decide (0 ≤ Lib.indexByte (⟨#[40, 41, 44, 33, 61, 43, 45, 42, 60, 59]⟩ : ByteArray).data.toList c) = false := HD.out
    rw [e2]
    obtain rfl := hw
    go_wp2
    go_ret
    exact ⟨rfl, rfl⟩
theorem signKind_two (s : ByteArray) (w : World) (hs : 1 < s.size) (hm : s.size ≤ 1000) :
    Calls Tryz.prog 110 #[.string s] w fun e w' => e = .returned (.int .u8 5) ∧ w = w' := by
  go_enter Tryz.func110, Tryz.ntmps110
  go_wp2
  go_ret
  exact ⟨rfl, rfl⟩

/-- What the sign at a place is held against. -/
theorem two_text (xs : List Int) (hr : Bytes xs) (h : 1 < xs.length) :
    ((strOfNums (xs.take 2)).toList == [58, 61]) = decide (el xs 0 = 58 ∧ el xs 1 = 61) ∧ ((strOfNums (xs.take 2)).toList == [61, 62]) = decide (el xs 0 = 61 ∧ el xs 1 = 62) := by
  match xs, h with
  | x :: y :: r, _ =>
    have hx := hr x (by simp)
    have hy := hr y (by simp)
    have e0 : el (x :: y :: r) 0 = x := rfl
    have e1 : el (x :: y :: r) 1 = y := rfl
    rw [e0, e1, Lib.toList_data, strOfNums_data]
    have k1 : ∀ c : Int, 0 ≤ c → c ≤ 255 → ∀ k : Nat, k < 256 → (UInt8.ofNat c.toNat = UInt8.ofNat k ↔ c = k) := Chars.byte_eq
    have a1 := k1 x hx.1 hx.2 58 (by omega); have a2 := k1 y hy.1 hy.2 61 (by omega); have a3 := k1 x hx.1 hx.2 61 (by omega); have a4 := k1 y hy.1 hy.2 62 (by omega)
    simp only [UInt8.reduceOfNat] at a1 a2 a3 a4
    constructor
    · rw [Bool.eq_iff_iff]
      simp [a1, a2]
    · rw [Bool.eq_iff_iff]
      simp [a3, a4]
theorem one_text (s : ByteArray) (h : s.size < 2) : (s.toList == [58, 61]) = false ∧ (s.toList == [61, 62]) = false := by
  rw [Lib.toList_data]
  have hl : s.data.toList.length < 2 := h
  constructor <;>
  · rw [beq_eq_false_iff_ne]
    intro e
    rw [e] at hl
    simp at hl

/-- How many bytes a sign has. -/
def signN (xs : List Int) : Nat := if two xs = true then 2 else 1
set_option maxRecDepth 10000 in
set_option maxHeartbeats 400000 in
theorem sign_walk (p : Option Addr) (n d k : Nat) (xs : List Int) (w : World) (hb : BytesIn w p n d xs) (hk : k < n) (hn : n ≤ 65536) :
    Calls Tryz.prog 109 #[.slice p n d, .int .i64 k] w fun e w' => e = .returned (.string (strOfNums ((xs.drop k).take (signN (xs.drop k))))) ∧ w = w' := by
  have hl := hb.len
  have hnd := hb.2.1
  obtain ⟨b, o, rfl, hc⟩ := BytesAt.cells hb.2.2.2.1 (by rw [hb.1]; omega)
  have hlen : (xs.drop k).length = n - k := by rw [List.length_drop, hb.1]
  have hby := hb.2.2.2.2.drop k
  by_cases h2 : k + 2 ≤ n
  · have hcv2 := cut_text w b o 2 (d - k) xs k hc (by rw [hb.1]; exact h2)
    have e2 : (2 : Nat) = (min ((k : Int) + 2) (n : Int)).toNat - k := by omega
    conv at hcv2 => lhs; rw [e2]
    clear e2
    have hcv1 := cut_text w b o 1 (d - k) xs k hc (by rw [hb.1]; omega)
    have ht := two_text (xs.drop k) hby (by omega)
    have htw : two (xs.drop k) = (decide (el (xs.drop k) 0 = 58 ∧ el (xs.drop k) 1 = 61) || decide (el (xs.drop k) 0 = 61 ∧ el (xs.drop k) 1 = 62)) := by
      unfold two
      rw [Bool.eq_iff_iff]
      simp only [decide_eq_true_eq, Bool.or_eq_true]
      exact ⟨fun h => h.2, fun h => ⟨by omega, h⟩⟩
    obtain ⟨T2, hT2⟩ : ∃ T, T = strOfNums ((xs.drop k).take 2) := ⟨_, rfl⟩
    rw [← hT2] at hcv2 ht
    have hsz : T2.size = 2 := by rw [hT2, strOfNums_size, List.length_take]; omega
    obtain ⟨hA, hB⟩ := ht
    cases h58 : decide (el (xs.drop k) 0 = 58 ∧ el (xs.drop k) 1 = 61)
    · rw [h58] at hA htw
      cases h61 : decide (el (xs.drop k) 0 = 61 ∧ el (xs.drop k) 1 = 62)
      · rw [h61] at hB htw
        have HT := Lib.hid htw; have HZ := Lib.hid hsz; have HT2 := Lib.hid hT2
        clear hb hc hlen hby hT2 htw h58 h61 hsz
        go_enter Tryz.func109, Tryz.ntmps109
        go_wp2
        go_ret
        exact ⟨ret_str (by unfold signN; rw [HT.out]; rfl), rfl⟩
      · rw [h61] at hB htw
        have HT := Lib.hid htw; have HZ := Lib.hid hsz; have HT2 := Lib.hid hT2
        clear hb hc hlen hby hT2 htw h58 h61 hsz
        go_enter Tryz.func109, Tryz.ntmps109
        go_wp2
        go_ret
        exact ⟨ret_str (by unfold signN; rw [HT.out, HT2.out]; rfl), rfl⟩
    · rw [h58] at hA htw
      have HT := Lib.hid htw; have HZ := Lib.hid hsz; have HT2 := Lib.hid hT2
      clear hb hc hlen hby hT2 htw h58 hsz hB
      go_enter Tryz.func109, Tryz.ntmps109
      go_wp2
      go_ret
      exact ⟨ret_str (by unfold signN; rw [HT.out, HT2.out]; rfl), rfl⟩
  · have hcv1 := cut_text w b o 1 (d - k) xs k hc (by rw [hb.1]; omega)
    have hcv0 := hcv1
    have e1 : (1 : Nat) = (min ((k : Int) + 2) (n : Int)).toNat - k := by omega
    conv at hcv0 => lhs; rw [e1]
    clear e1
    have htw : two (xs.drop k) = false := by unfold two; exact decide_eq_false fun h => by omega
    obtain ⟨T1, hT1⟩ : ∃ T, T = strOfNums ((xs.drop k).take 1) := ⟨_, rfl⟩
    rw [← hT1] at hcv1 hcv0
    have hsz : T1.size = 1 := by rw [hT1, strOfNums_size, List.length_take]; omega
    obtain ⟨hA, hB⟩ := one_text T1 (by omega)
    have HT := Lib.hid htw; have HT1 := Lib.hid hT1
    clear hb hc hlen hby hT1 htw hsz h2
    go_enter Tryz.func109, Tryz.ntmps109
    go_wp2
    go_ret
    exact ⟨ret_str (by unfold signN; rw [HT.out, HT1.out]; rfl), rfl⟩

/-! ### One token -/
/-- What cut comes to: of what is no token the kind alone is told. -/
def CutEnd (xs : List Int) (k : Nat) (e : Ending) : Prop := ∃ s : ByteArray, e = .returned (.agg #[.int .u8 (pieceK xs), .string s, .int .i64 k]) ∧ (pieceK xs ≠ 0 → s = strOfNums (xs.take (pieceN xs)))
theorem cutEnd_mk {xs : List Int} {k : Nat} {e : Ending} {K : Int} {s : ByteArray} (hK : K = pieceK xs) (hs : pieceK xs ≠ 0 → s = strOfNums (xs.take (pieceN xs))) (he : e = .returned (.agg #[.int .u8 K, .string s, .int .i64 k])) : CutEnd xs k e := by
  subst hK
  exact ⟨s, he, hs⟩

theorem str_size (xs : List Int) (r : Nat) : (strOfNums (xs.take r)).size ≤ xs.length := by
  rw [strOfNums_size, List.length_take]; omega

/-- A token's own block reads as it was laid. -/
theorem box_cells {w W : World} {t : TypeId} {v0 v1 v2 : Value} (hb : Below (w.alloc (.cells #[v0, v1, v2] t)).heap.size (w.alloc (.cells #[v0, v1, v2] t)) W) :
    (W.cell? ⟨w.heap.size, 0, none⟩ = some v0 ∧ W.cell? ⟨w.heap.size, 1, none⟩ = some v1 ∧ W.cell? ⟨w.heap.size, 2, none⟩ = some v2) ∧
    W.frozen? ⟨w.heap.size, 0, none⟩ = false ∧ W.frozen? ⟨w.heap.size, 1, none⟩ = false ∧ W.frozen? ⟨w.heap.size, 2, none⟩ = false := by
  have hlt : w.heap.size < (w.alloc (.cells #[v0, v1, v2] t)).heap.size := by simp
  have hc := fun j => hb.cell (p := ⟨w.heap.size, j, none⟩) hlt
  have hf := fun j => hb.frozen (p := ⟨w.heap.size, j, none⟩) hlt
  refine ⟨⟨(hc 0).trans ?_, (hc 1).trans ?_, (hc 2).trans ?_⟩, (hf 0).trans ?_, (hf 1).trans ?_, (hf 2).trans ?_⟩ <;> simp [go_sem]

set_option maxHeartbeats 1600000 in
theorem cut_walk (p : Option Addr) (n d k : Nat) (xs : List Int) (w : World) (hb : BytesIn w p n d xs) (hk : k < n) (hn : n ≤ 65536) (hl : Laid2 w) :
    Calls Tryz.prog 77 #[.slice p n d, .int .i64 k] w fun e w' => CutEnd (xs.drop k) k e ∧ Below w.heap.size w w' := by
  obtain ⟨b, o, rfl, hc⟩ := BytesAt.cells hb.2.2.2.1 (by rw [hb.1]; omega)
  have hck := hc k (by rw [hb.1]; exact hk)
  have hlen : (xs.drop k).length = n - k := by rw [List.length_drop, hb.1]
  have hel : el (xs.drop k) 0 = el xs k := by rw [Chars.el_drop, Nat.add_zero]
  have hck' : w.cell? ⟨b, o + k, none⟩ = some (.int .u8 (el xs k)) := hck
  have hca : ∀ O : Obj, (w.alloc O).cell? ⟨b, o + k, none⟩ = some (.int .u8 (el xs k)) := fun O => (World.cell?_alloc_lt w O ⟨b, o + k, none⟩ (World.block_lt_of_cell? w _ hck')).trans hck'
  have hcr := hb.2.2.2.2.el (k := k) (by rw [hb.1]; exact hk)
  have hne : xs.drop k ≠ [] := fun e => by rw [e] at hlen; simp at hlen; omega
  have hnl := hb.len.1
  have hsz := fun r => str_size (xs.drop k) r
  rw [hlen] at hsz
  have HB := Lib.hid hb; have HL := Lib.hid hl; have HN := Lib.hid hn; have HC0 := Lib.hid hcr.1; have HC1 := Lib.hid hcr.2
  have hbox : ∀ O : Obj, Below w.heap.size w (w.alloc O) := fun O => (Below.refl _ _).alloc (Nat.le_refl _) _
  have HBOX := Lib.hid hbox
  have HSZ := Lib.hid hsz
  have HEL := Lib.hid hel; have HNE := Lib.hid hne
  clear hb hl hcr hck hck' hc hbox hsz hel hne hlen
  by_cases h2 : cls (el xs k) = 2
  · have hK : pieceK (xs.drop k) = digK (strOfNums ((xs.drop k).take (run [2] (xs.drop k)))) := by unfold pieceK; rw [HEL.out, if_pos h2]
    have hN : pieceN (xs.drop k) = run [2] (xs.drop k) := by unfold pieceN; rw [HEL.out, if_pos h2]
    have HK := Lib.hid hK; have HPN := Lib.hid hN; have H2 := Lib.hid h2
    clear hK hN h2
    go_enter Tryz.func77, Tryz.ntmps77
    go_wp2_with (fail)
    refine (Chars.class_walk _ HC0.out HC1.out _).mono ?_
    rw [H2.out]
    rintro e w1 ⟨rfl, rfl⟩
    clear hca
    go_wp2_with (fail)
    refine (lead_walk _ _ n d k 1 1 xs [2] _ ?_ hk rfl (by unfold maxLen; omega) ?_).mono ?_
    · exact HB.out.below ((HBOX.out _).alloc (HBOX.out _).size _)
    · exact bytes_new _ _ _ _ _ _ (by simp) rfl
    rintro e w2 ⟨rfl, hb2⟩
    have HB2 := Lib.hid (((Below.refl _ _).alloc (Nat.le_refl _) _).trans (hb2.mono (by simp : (w.alloc _).heap.size ≤ _))); clear hb2
    obtain ⟨T, hT⟩ : ∃ T, T = strOfNums ((xs.drop k).take (run [2] (xs.drop k))) := ⟨_, rfl⟩
    have hTs : T.size ≤ 1000000 := by rw [hT]; have := HSZ.out (run [2] (xs.drop k)); have := HN.out; omega
    rw [← hT]
    have HT := Lib.hid hT; have HTS := Lib.hid hTs; clear hT hTs
    go_wp2_with (fail)
    refine (digitsKind_walk T _ HTS.out (HL.out.below ((HBOX.out _).trans (HB2.out.mono (HBOX.out _).size))).2).mono ?_
    rintro e w3 ⟨rfl, hb3⟩
    have HB3 := Lib.hid (HB2.out.trans (hb3.mono HB2.out.size)); clear hb3
    generalize hKK : digK T = KK
    have HKK := Lib.hid hKK; clear hKK
    have HBW := Lib.hid ((HBOX.out _).trans (HB3.out.mono (HBOX.out _).size))
    obtain ⟨⟨c0, c1, c2⟩, f0, f1, f2⟩ := box_cells HB3.out
    go_wp2
    refine bodyPost_ret (v := .agg #[.int .u8 KK, .string T, .int .i64 k]) (by simp [results, Tryz.results77, go_sem, c0, c1, c2]) rfl ⟨cutEnd_mk ?_ ?_ rfl, ((HBW.out.setCell (Nat.le_refl _) _).setCell (Nat.le_refl _) _).setCell (Nat.le_refl _) _⟩
    · rw [HK.out, ← HT.out, HKK.out]
    · intro _; rw [HT.out, HPN.out]
  by_cases h3 : cls (el xs k) = 3 ∨ cls (el xs k) = 4
  · have hK : pieceK (xs.drop k) = letK (strOfNums ((xs.drop k).take (run [3, 4, 2] (xs.drop k)))) := by unfold pieceK; rw [HEL.out, if_neg h2, if_pos h3]
    have hN : pieceN (xs.drop k) = run [3, 4, 2] (xs.drop k) := by unfold pieceN; rw [HEL.out, if_neg h2, if_pos h3]
    have HK := Lib.hid hK; have HPN := Lib.hid hN; have H2 := Lib.hid h2; have H3 := Lib.hid h3
    clear hK hN h2
    rcases h3 with h3 | h3
    all_goals
      go_enter Tryz.func77, Tryz.ntmps77
      go_wp2_with (fail)
      refine (Chars.class_walk _ HC0.out HC1.out _).mono ?_
      rw [h3]
      clear h3
      rintro e w1 ⟨rfl, rfl⟩
      clear hca
      go_wp2_with (fail)
      refine (lead_walk _ _ n d k 3 3 xs [3, 4, 2] _ ?_ hk rfl (by unfold maxLen; omega) ?_).mono ?_
      · exact HB.out.below ((HBOX.out _).alloc (HBOX.out _).size _)
      · exact bytes_new _ _ _ _ _ _ (by simp) rfl
      rintro e w2 ⟨rfl, hb2⟩
      have HB2 := Lib.hid (((Below.refl _ _).alloc (Nat.le_refl _) _).trans (hb2.mono (by simp : (w.alloc _).heap.size ≤ _))); clear hb2
      obtain ⟨T, hT⟩ : ∃ T, T = strOfNums ((xs.drop k).take (run [3, 4, 2] (xs.drop k))) := ⟨_, rfl⟩
      have hTs : T.size ≤ 1000000 := by rw [hT]; have := HSZ.out (run [3, 4, 2] (xs.drop k)); have := HN.out; omega
      rw [← hT]
      have HT := Lib.hid hT; have HTS := Lib.hid hTs; clear hT hTs
      go_wp2_with (fail)
      refine (lettersKind_walk T _ (by have := HTS.out; unfold maxLen; omega) (HL.out.below ((HBOX.out _).trans (HB2.out.mono (HBOX.out _).size))).1).mono ?_
      rintro e w3 ⟨rfl, hb3⟩
      have HB3 := Lib.hid (HB2.out.trans (hb3.mono HB2.out.size)); clear hb3
      generalize hKK : letK T = KK
      have HKK := Lib.hid hKK; clear hKK
      have HBW := Lib.hid ((HBOX.out _).trans (HB3.out.mono (HBOX.out _).size))
      obtain ⟨⟨c0, c1, c2⟩, f0, f1, f2⟩ := box_cells HB3.out
      go_wp2
      refine bodyPost_ret (v := .agg #[.int .u8 KK, .string T, .int .i64 k]) (by simp [results, Tryz.results77, go_sem, c0, c1, c2]) rfl ⟨cutEnd_mk ?_ ?_ rfl, ((HBW.out.setCell (Nat.le_refl _) _).setCell (Nat.le_refl _) _).setCell (Nat.le_refl _) _⟩
      · rw [HK.out, ← HT.out, HKK.out]
      · intro _; rw [HT.out, HPN.out]
  by_cases h5 : cls (el xs k) = 5
  · have hN : pieceN (xs.drop k) = signN (xs.drop k) := by unfold pieceN signN; rw [HEL.out, if_neg h2, if_neg h3]
    have hK : pieceK (xs.drop k) = if two (xs.drop k) = true then 5 else if el xs k = 58 ∨ el xs k = 62 then 0 else 5 := by unfold pieceK; rw [HEL.out, if_neg h2, if_neg h3, if_pos h5]
    have hsk : ∀ (T : ByteArray) (W : World), T = strOfNums ((xs.drop k).take (signN (xs.drop k))) → Calls Tryz.prog 110 #[.string T] W fun e w' => e = .returned (.int .u8 (pieceK (xs.drop k))) ∧ W = w' := by
      intro T W hT
      cases ht : two (xs.drop k)
      · rw [ht] at hK
        have hT1 : T = ⟨#[UInt8.ofNat (el xs k).toNat]⟩ := by
          rw [hT, show signN (xs.drop k) = 1 from by unfold signN; rw [ht]; rfl]
          have hne := HNE.out
          have hel := HEL.out
          cases hxs : xs.drop k with
          | nil => exact absurd hxs hne
          | cons x r =>
            rw [hxs] at hel
            have e : x = el xs k := hel
            rw [← e]
            rfl
        rw [hT1, hK]
        refine (signKind_one _ W).mono fun e w' ⟨he, hw⟩ => ⟨?_, hw⟩
        rw [he]
        refine ret_u8' ?_
        have ha := alone_iff (el xs k) HC0.out HC1.out h5
        by_cases h58 : el xs k = 58 ∨ el xs k = 62
        · rw [if_neg (fun h => (ha.1 h) h58), if_neg (by simp), if_pos h58]
        · rw [if_pos (ha.2 h58), if_neg (by simp), if_neg h58]
      · rw [ht] at hK
        rw [hK]
        have htl := two_len ht
        have hz : T.size = 2 := by
          rw [hT, strOfNums_size, List.length_take, show signN (xs.drop k) = 2 from by unfold signN; rw [ht]; rfl]
          omega
        exact signKind_two T W (by omega) (by omega)
    have HSK := Lib.hid hsk; have HPN := Lib.hid hN; have H5 := Lib.hid h5
    clear hK hN h2 h3 h5 hsk
    go_enter Tryz.func77, Tryz.ntmps77
    go_wp2_with (fail)
    refine (Chars.class_walk _ HC0.out HC1.out _).mono ?_
    rw [H5.out]
    rintro e w1 ⟨rfl, rfl⟩
    clear hca
    go_wp2_with (fail)
    refine (sign_walk _ n d k xs _ ?_ hk HN.out).mono ?_
    · exact HB.out.below (HBOX.out _)
    rintro e w2 ⟨rfl, rfl⟩
    obtain ⟨T, hT⟩ : ∃ T, T = strOfNums ((xs.drop k).take (signN (xs.drop k))) := ⟨_, rfl⟩
    rw [← hT]
    have HT := Lib.hid hT; clear hT
    go_wp2_with (fail)
    refine (HSK.out T _ HT.out).mono ?_
    rintro e w3 ⟨rfl, rfl⟩
    generalize hKK : pieceK (xs.drop k) = KK
    have HKK := Lib.hid hKK; clear hKK
    go_wp2
    refine bodyPost_ret (v := .agg #[.int .u8 KK, .string T, .int .i64 k]) (by simp [results, Tryz.results77, go_sem]) rfl ⟨cutEnd_mk HKK.out.symm ?_ rfl, ?_⟩
    · intro _; rw [HT.out, HPN.out]
    · first | exact HBOX.out _ | exact (((HBOX.out _).setCell (p := ⟨w.heap.size, 0, none⟩) (Nat.le_refl _) _).setCell (p := ⟨w.heap.size, 1, none⟩) (Nat.le_refl _) _).setCell (p := ⟨w.heap.size, 2, none⟩) (Nat.le_refl _) _
  · have hK : pieceK (xs.drop k) = 0 := by unfold pieceK; rw [HEL.out, if_neg h2, if_neg h3, if_neg h5]
    have HK := Lib.hid hK
    have hcl := Chars.cls_le (el xs k)
    have h01 : cls (el xs k) = 0 ∨ cls (el xs k) = 1 := by omega
    clear hK h2 h3 h5 hcl
    rcases h01 with h01 | h01
    all_goals
      have H01 := Lib.hid h01
      clear h01
      go_enter Tryz.func77, Tryz.ntmps77
      go_wp2_with (fail)
      refine (Chars.class_walk _ HC0.out HC1.out _).mono ?_
      rw [H01.out]
      rintro e w1 ⟨rfl, rfl⟩
      clear hca
      go_wp2
      refine bodyPost_ret (v := .agg #[.int .u8 0, .string ⟨#[]⟩, .int .i64 k]) (by simp [results, Tryz.results77, go_sem]) rfl ⟨cutEnd_mk HK.out.symm (fun h => absurd HK.out h) rfl, ?_⟩
      first | exact HBOX.out _ | exact (((HBOX.out _).setCell (p := ⟨w.heap.size, 0, none⟩) (Nat.le_refl _) _).setCell (p := ⟨w.heap.size, 1, none⟩) (Nat.le_refl _) _).setCell (p := ⟨w.heap.size, 2, none⟩) (Nat.le_refl _) _
end Token
end Go.Proofs.YtadpjkehflokcaaGreatDoor
namespace Go.Proofs.YtadpjkehflokcaaGreatDoor
open Go.RowKit
namespace Token
open Chars (ret_i64 ret_bool ret_u8 cls el isin run spanI BytesAt Bytes bytes_new)
open Words (KwLaid NumLaid Laid2 NumEnd numV numB kwN nameB exnB)

set_option maxRecDepth 100000 in
set_option maxHeartbeats 3200000 in
theorem lex_walk (p : Option Addr) (n d : Nat) (xs : List Int) (w : World) (hb : BytesIn w p n d xs) (hl : Laid2 w) :
    Calls Tryz.prog 39 #[.slice p n d] w fun e w' => LexEnd xs w e w' := by
  have hn := hb.1
  have hnl := hb.len.1
  have HX := Lib.hid hn
  have HB := Lib.hid hb; have HL := Lib.hid hl
  clear hb hl hn
  by_cases hbig : 65536 < n
  · have hbi : (65536 : Int) < (n : Int) := by omega
    have HBI := Lib.hid hbig
    clear hbig
    go_enter Tryz.func39, Tryz.ntmps39
    go_wp2
    refine bodyPost_ret (v := .tuple #[.slice none 0 0, .int .i64 0, .int .i64 3]) (by simp [results, Tryz.results39, go_sem]) rfl ⟨Below.refl _ _, .inl ⟨by rw [HX.out]; exact HBI.out, _, _, rfl⟩⟩
  have hn : n ≤ 65536 := by omega
  obtain ⟨i0, hi, hz0, hz1, hz2⟩ := info_parts infoTok
  have HI := Lib.hid hi; have HZ0 := Lib.hid hz0; have HZ1 := Lib.hid hz1; have HZ2 := Lib.hid hz2
  have hni : (n : Int) ≤ 65536 := by omega
  have HN := Lib.hid hn
  clear hi hz0 hz1 hz2 hbig hn
  go_enter Tryz.func39, Tryz.ntmps39
  go_wp2_with (fail)
  refine (skip_walk p n d 0 xs _ HB.out (Nat.zero_le _)).mono ?_
  rintro e w1 ⟨rfl, hb1⟩
  have HB1 := Lib.hid hb1; clear hb1
  obtain ⟨k0, hk0⟩ : ∃ k0, k0 = 0 + run [1] (xs.drop 0) := ⟨_, rfl⟩
  rw [← hk0]
  have hk0n : k0 ≤ n := by rw [hk0, ← HX.out]; exact run_at_le [1] xs 0 (Nat.zero_le _)
  have hlex0 : lex xs 0 = pre [] (lex (xs.drop k0) k0) ∧ (xs.drop k0 ≠ [] → cls (el (xs.drop k0) 0) ≠ 1) := by
    have h1 := lex_skip _ xs 0 rfl
    have h2 := skip_edge xs
    rw [List.drop_zero, Nat.zero_add] at hk0
    rw [pre_nil, hk0]
    exact ⟨by rw [h1, Nat.zero_add], h2⟩
  have H0 := Lib.hid hlex0
  have HK0 := Lib.hid hk0
  clear hlex0 hk0
  go_wp2
  go_loopw [5, 6] (fun v i wr => ∃ (k : Nat) (ts : List Tok), k ≤ n ∧ i = .int .i64 k ∧ ts.length ≤ k ∧ wr.ownsRow w.heap.size 46 3 v ts.length (tcells ts) ∧ Below w.heap.size w wr ∧ lex xs 0 = pre ts (lex (xs.drop k) k) ∧ (xs.drop k ≠ [] → cls (el (xs.drop k) 0) ≠ 1)) (fun _ i _ => n - (intOf i).toNat)
  case atStart => exact ⟨k0, [], hk0n, rfl, by simp, World.ownsRow_nil _ _ _ _, HB1.out, H0.out.1, H0.out.2⟩
  case round =>
    obtain ⟨k, ts, hk, rfl, hts, hown, hbw, hlx, hed⟩ := hrel
    have HOWN := Lib.hid hown; have HBW := Lib.hid hbw; have HLX := Lib.hid hlx; have HED := Lib.hid hed
    clear hown hbw hlx hed
    by_cases hlt : k < n
    · have hne : xs.drop k ≠ [] := fun e => by have := drop_len xs k n HX.out; rw [e] at this; simp at this; omega
      have HNE := Lib.hid hne; clear hne
      go_wp2_with (fail)
      refine (cut_walk p n d k xs _ (HB.out.below HBW.out) hlt HN.out (HL.out.below HBW.out)).mono ?_
      rintro e w2 ⟨⟨T, rfl, hT⟩, hb2⟩
      have HB2 := Lib.hid (HBW.out.trans (hb2.mono HBW.out.size))
      have hgr := hb2
      have HT := Lib.hid hT
      clear hT
      clear hb2
      by_cases hK : pieceK (xs.drop k) = 0
      · have hlex : lex xs 0 = .inl k := by rw [HLX.out, lex_bad _ _ HNE.out (HED.out HNE.out) hK]; rfl
        have HLE := Lib.hid hlex
        rw [hK]
        clear hK hlex
        go_wp2
        refine bodyPost_ret (v := .tuple #[.slice none 0 0, .int .i64 k, .int .i64 2]) (by simp [results, Tryz.results39, go_sem]) rfl ⟨?_, .inr (.inl ⟨by rw [HX.out]; exact HN.out, _, _, k, HLE.out, rfl⟩)⟩
        exact HB2.out.alloc HB2.out.size _
      · have hlex := HLX.out
        rw [lex_tok _ _ HNE.out hK, pre_pre] at hlex
        have hTe := HT.out hK
        have hKb : (pieceK (xs.drop k) == 0) = false := by simpa using hK
        have hp := pieceN_pos _ HNE.out
        have hdl := drop_len xs k n HX.out
        have hTs : T.size = pieceN (xs.drop k) := by rw [hTe, strOfNums_size, List.length_take]; omega
        have htok : tcell (tokAt (xs.drop k) k) = [.int .u8 (pieceK (xs.drop k)), .string T, .int .i64 k] := by unfold tcell tokAt; rw [← hTe]
        have hTn : k + T.size ≤ n := by omega
        have hTp : 0 < T.size := by omega
        rw [← hTs] at hlex
        obtain ⟨K, hKK⟩ : ∃ K, K = pieceK (xs.drop k) := ⟨_, rfl⟩
        rw [← hKK] at hKb htok ⊢
        have HLE := Lib.hid hlex; have HTS := Lib.hid hTs; have HTK := Lib.hid htok
        clear hlex hK hTe hp hdl hTs htok hKK HT
        have HO2 := Lib.hid (own_below HOWN.out hgr)
        have hBs : w.heap.size ≤ w2.heap.size := HB2.out.size
        have HBS := Lib.hid hBs
        have hts' : ts.length ≤ 65536 := by have := HN.out; omega
        have HTS2 := Lib.hid hts'
        clear hgr hBs hts'
        go_wp2_with (at_builtin; refine wpList_append_own _ rfl (.tmp 24) (.tmp 26) 24 rfl w.heap.size 46 i0 (.agg #[.int .u8 0, .string ⟨#[]⟩, .int .i64 0]) 3 32 Tryz.underlying24 HI.out HZ0.out HZ1.out HZ2.out rfl (by decide) _ _ _ rfl ((HO2.out.alloc _).alloc _) ⟨w2.heap.size + 1, 0, none⟩ 1 1 [.int .u8 K, .string T, .int .i64 k] rfl rfl (by rw [show w2.heap.size + 1 = (w2.alloc (.cells #[.int .u8 K, .string T, .int .i64 k] 46)).heap.size from by simp]; exact three_new _ _ _ _ _) (by intro u hu; simp at hu; rcases hu with rfl | rfl | rfl <;> rfl) (by have := HTS2.out; unfold maxLen; omega) (by have := HTS2.out; omega) (by have := HBS.out; simp; omega) ?_; intro v3 w3 hown3 hgrow3 hnil3; have AFT := Lib.hid (after_append HBS.out HB2.out HO2.out hgrow3); have HO3 := Lib.hid hown3; have c1 := AFT.out.2; clear hown3 hgrow3 hnil3)
        refine (skip_walk p n d (k + T.size) xs _ (HB.out.below AFT.out.1) hTn).mono ?_
        rintro e w4 ⟨rfl, hb4⟩
        have HB4 := Lib.hid (AFT.out.1.trans (hb4.mono AFT.out.1.size))
        have HO4 := Lib.hid (own_below HO3.out hb4)
        obtain ⟨k', hk'⟩ : ∃ k', k' = k + T.size + run [1] (xs.drop (k + T.size)) := ⟨_, rfl⟩
        rw [← hk']
        have hk'n : k' ≤ n := by rw [hk', ← HX.out]; exact run_at_le [1] xs (k + T.size) (by rw [HX.out]; exact hTn)
        have hk'p : k < k' := by omega
        have HK' := Lib.hid hk'
        clear hb4 hk' c1
        go_wp2
        go_roundw
        case rel =>
          refine ⟨k', ts ++ [tokAt (xs.drop k) k], hk'n, rfl, ?_, ?_, HB4.out, ?_, ?_⟩
          · rw [List.length_append]; simp; omega
          · rw [List.length_append, tcells_snoc, HTK.out]; exact HO4.out
          · rw [HLE.out, List.drop_drop, lex_skip _ (xs.drop (k + T.size)) _ rfl, HK'.out, List.drop_drop]
          · have := skip_edge (xs.drop (k + T.size))
            rw [List.drop_drop, ← HK'.out] at this
            exact this
        case measure => simp [intOf]; omega
    · obtain rfl : k = n := by omega
      have hlex : lex xs 0 = .inr ts := by rw [HLX.out, List.drop_eq_nil_of_le (by rw [HX.out]; exact Nat.le_refl _), lex_nil]; simp [pre]
      have HLE := Lib.hid hlex
      have hBs : w.heap.size ≤ wr.heap.size := HBW.out.size
      have HBS := Lib.hid hBs
      clear hBs hlex
      go_wp2_with (at_builtin; refine wpList_append_own _ rfl (.tmp 35) (.tmp 39) 24 rfl w.heap.size 46 i0 (.agg #[.int .u8 0, .string ⟨#[]⟩, .int .i64 0]) 3 32 Tryz.underlying24 HI.out HZ0.out HZ1.out HZ2.out rfl (by decide) _ _ _ rfl (HOWN.out.alloc _) ⟨wr.heap.size, 0, none⟩ 1 1 [.int .u8 6, .string ⟨#[]⟩, .int .i64 k] rfl rfl (three_new _ _ _ _ _) (by intro u hu; simp at hu; rcases hu with rfl | rfl | rfl <;> rfl) (by have := HN.out; unfold maxLen; omega) (by have := HN.out; omega) (by have := HBS.out; simp; omega) ?_; intro v3 w3 hown3 hgrow3 hnil3; have AFT := Lib.hid ((HBW.out.alloc HBS.out _).grown hgrow3 (by have := HBS.out; simp; omega) (fun q hq => (HOWN.out.lt q hq).1)); have HO3 := Lib.hid hown3; clear hown3 hgrow3 hnil3)
      have ho : w3.ownsRow w.heap.size 46 3 v3 (ts ++ [endT k]).length (tcells (ts ++ [endT k])) := by
        rw [List.length_append, tcells_snoc]; exact HO3.out
      obtain ⟨g, c, rfl, hat, hcn, hcm⟩ := toks_of_own ho (by rw [List.length_append]; simp)
      have hlen : (ts ++ [endT k]).length = ts.length + 1 := by rw [List.length_append]; rfl
      refine bodyPost_ret (v := .tuple #[.slice (some ⟨g, 0, none⟩) (ts.length + 1) c, .int .i64 0, .int .i64 0]) (by simp [results, Tryz.results39, go_sem]) rfl ⟨AFT.out, .inr (.inr ⟨by rw [HX.out]; exact HN.out, ts, g, c, HLE.out, rfl, ?_⟩)⟩
      rw [HX.out]
      exact ⟨hat, by rw [hlen] at hcn; exact hcn, hcm⟩
end Token
end Go.Proofs.YtadpjkehflokcaaGreatDoor
namespace Go.Proofs.YtadpjkehflokcaaGreatDoor
open Go.RowKit
set_option linter.unusedVariables false
namespace Token
open Words (sel)
/-- A slice's tokens' texts, wherever it lies: nothing is asked of an empty one. -/
def TextsIn (w : World) (p : Option Addr) (ss : List ByteArray) : Prop :=
  ss = [] ∨ ∃ b o, p = some ⟨b, o, none⟩ ∧ ∀ i, i < ss.length → ∃ K A : Int, w.cell? ⟨b, o + i * 3, none⟩ = some (.int .u8 K) ∧ w.cell? ⟨b, o + i * 3 + 1, none⟩ = some (.string (sel ss i)) ∧ w.cell? ⟨b, o + i * 3 + 2, none⟩ = some (.int .i64 A)
/-- The texts of tokens. -/
def texts (ts : List Tok) : List ByteArray := ts.map (·.s)
theorem texts_len (ts : List Tok) : (texts ts).length = ts.length := by simp [texts]
theorem texts_sel (ts : List Tok) (k : Nat) (h : k < ts.length) : sel (texts ts) k = (tel ts k).s := by
  unfold texts tel sel
  rw [List.getD_eq_getElem?_getD, List.getElem?_map, List.getD_eq_getElem?_getD, List.getElem?_eq_getElem h]
  rfl
theorem ToksAt.in_ {w : World} {g : Nat} {ts : List Tok} (h : ToksAt w g ts) : TextsIn w (some ⟨g, 0, none⟩) (texts ts) := .inr ⟨g, 0, rfl, fun i hi => by
  rw [texts_len] at hi
  rw [texts_sel ts i hi]
  obtain ⟨h0, h1, h2⟩ := h i hi
  exact ⟨_, _, by simpa using h0, by simpa using h1, by simpa using h2⟩⟩
theorem TextsIn.get {w : World} {p : Option Addr} {ss : List ByteArray} (h : TextsIn w p ss) (k : Nat) (hk : k < ss.length) :
    ∃ b o, p = some ⟨b, o, none⟩ ∧ ∃ K A : Int, w.cell? ⟨b, o + k * 3, none⟩ = some (.int .u8 K) ∧ w.cell? ⟨b, o + k * 3 + 1, none⟩ = some (.string (sel ss k)) ∧ w.cell? ⟨b, o + k * 3 + 2, none⟩ = some (.int .i64 A) := by
  rcases h with rfl | ⟨b, o, hp, h⟩
  · simp at hk
  · exact ⟨b, o, hp, h k hk⟩
theorem TextsIn.below {w W : World} {p : Option Addr} {ss : List ByteArray} (h : TextsIn w p ss) (hb : Below w.heap.size w W) : TextsIn W p ss := by
  rcases h with h | ⟨b, o, hp, hc⟩
  · exact .inl h
  · refine .inr ⟨b, o, hp, fun i hi => ?_⟩
    obtain ⟨K, A, h0, h1, h2⟩ := hc i hi
    have hl : b < w.heap.size := World.block_lt_of_cell? w _ h0
    exact ⟨K, A, (hb.cell (p := ⟨b, o + i * 3, none⟩) hl).trans h0, (hb.cell (p := ⟨b, o + i * 3 + 1, none⟩) hl).trans h1, (hb.cell (p := ⟨b, o + i * 3 + 2, none⟩) hl).trans h2⟩
end Token
end Go.Proofs.YtadpjkehflokcaaGreatDoor
