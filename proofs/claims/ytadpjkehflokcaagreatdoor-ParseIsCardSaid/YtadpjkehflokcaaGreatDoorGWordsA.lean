/-Plain facts on keywords, names and numbers: of no program. The walks of the program's and the document's keywords: each is 'kwN'. From what a row lists of the keywords to what layer 2's walks ask of the world. The walks of the program's names and exceptions' names, one text at a time. The walk of the program's test of digits. The walks of the document's names and exceptions' names. The walks of the program's Name and Exn, and of the document's. -/
import Derived.Test.YtadpjkehflokcaaGreatDoorGCharsA
import Derived.Lib.ItoaLen
import Derived.Lib.Strings
import Derived.Lib.ParseIntBCases
import Derived.Test.YtadpjkehflokcaaGreatDoorRows
import Derived.LoopTactic
import Derived.Outline
import Derived.Stop.LaidErr
import Derived.LaidMore
import Derived.LaidByTextLater
import Derived.Lib.ConvBytes
import Derived.Lib.SmallJoins
import Derived.Laws.AppendOwn
namespace Go.Proofs.YtadpjkehflokcaaGreatDoor
namespace Words
open Chars (cls el isin run Bytes)

/-! ### Keywords -/
def kwTexts : List (List UInt8) :=
  [[108, 101, 116], [108, 101, 116, 114, 101, 99], [105, 110], [102, 110], [105, 102], [116, 104, 101, 110], [101, 108, 115, 101], [114, 97, 105, 115, 101],
   [116, 114, 121], [119, 105, 116, 104], [114, 101, 102], [102, 115, 116], [115, 110, 100], [101, 120, 110]]
def kwT (k : Nat) : ByteArray := ⟨(kwTexts.getD k []).toArray⟩

def kwAt (l : List UInt8) : List (List UInt8) → Nat → Nat
  | [], _ => 0
  | t :: r, k => if t = l then k + 1 else kwAt l r (k + 1)
/-- Which keyword a text is, from 1 on; 0. -/
def kwN (l : List UInt8) : Nat := kwAt l kwTexts 0

theorem kwAt_hit (l : List UInt8) : ∀ (ts : List (List UInt8)) (b k : Nat), k < ts.length → ts.getD k [] = l → (∀ j, j < k → ts.getD j [] ≠ l) → kwAt l ts b = b + k + 1
  | [], _, k, hk, _, _ => by simp at hk
  | t :: r, b, 0, _, h, _ => by
    have h' : t = l := h
    simp [kwAt, h']
  | t :: r, b, k + 1, hk, h, hn => by
    have h' : t ≠ l := hn 0 (by omega)
    have ih := kwAt_hit l r (b + 1) k (by simpa using hk) h (fun j hj => hn (j + 1) (by omega))
    simp only [kwAt, h', if_false, ih]
    omega
theorem kwAt_miss (l : List UInt8) : ∀ (ts : List (List UInt8)) (b : Nat), (∀ j, j < ts.length → ts.getD j [] ≠ l) → kwAt l ts b = 0
  | [], _, _ => rfl
  | t :: r, b, hn => by
    have h' : t ≠ l := hn 0 (by simp)
    have ih := kwAt_miss l r (b + 1) (fun j hj => hn (j + 1) (by simpa using hj))
    simp only [kwAt, h', if_false, ih]
theorem bytes_ext {s t : ByteArray} (h : s.data.toList = t.data.toList) : s = t := by
  cases s; cases t
  simp at h
  simp [h]
/-- Two texts, as the walk holds them against each other. -/
theorem str_yes {s t : ByteArray} (h : s = t) : (s.toList == t.toList) = true := by rw [h]; simp
theorem str_no {s t : ByteArray} (h : s ≠ t) : (s.toList == t.toList) = false := by
  rw [Lib.toList_data, Lib.toList_data, beq_eq_false_iff_ne]
  exact fun e => h (bytes_ext e)
theorem kwT_list (k : Nat) : (kwT k).data.toList = kwTexts.getD k [] := by simp [kwT]
theorem kwN_hit (s : ByteArray) (k : Nat) (hk : k < 14) (h : kwT k = s) (hn : ∀ j, j < k → kwT j ≠ s) : kwN s.data.toList = k + 1 := by
  unfold kwN
  rw [kwAt_hit s.data.toList kwTexts 0 k hk (by rw [← kwT_list, h]) (fun j hj e => hn j hj (bytes_ext (by rw [kwT_list, e])))]
  omega
theorem kwN_miss (s : ByteArray) (hn : ∀ j, j < 14 → kwT j ≠ s) : kwN s.data.toList = 0 := by
  unfold kwN
  exact kwAt_miss _ _ _ (fun j hj e => hn j hj (bytes_ext (by rw [kwT_list, e])))

/-! ### Names -/
/-- The bytes of a text as numbers. -/
def ints (l : List UInt8) : List Int := l.map fun c => (c.toNat : Int)
theorem ints_length (l : List UInt8) : (ints l).length = l.length := by simp [ints]
theorem ints_bytes (l : List UInt8) : Bytes (ints l) := by
  intro x hx
  simp only [ints, List.mem_map] at hx
  obtain ⟨c, _, rfl⟩ := hx
  have := c.toNat_lt
  omega
theorem el_ints (l : List UInt8) (k : Nat) (hk : k < l.length) : el (ints l) k = ((l[k]).toNat : Int) := by
  unfold el ints
  rw [List.getD_eq_getElem?_getD]
  simp [hk]

/-- One of the class f, then letters and digits: at most 16. -/
def wordB (f : Int) (xs : List Int) : Bool := decide (xs ≠ [] ∧ xs.length ≤ 16 ∧ cls (el xs 0) = f ∧ ∀ x ∈ xs, isin [3, 4, 2] (cls x) = true)
theorem wordB_true {f : Int} {xs : List Int} (h0 : xs ≠ []) (h1 : xs.length ≤ 16) (h2 : cls (el xs 0) = f) (h3 : ∀ x ∈ xs, isin [3, 4, 2] (cls x) = true) : wordB f xs = true := by
  unfold wordB; exact decide_eq_true ⟨h0, h1, h2, h3⟩
theorem wordB_nil (f : Int) : wordB f [] = false := by simp [wordB]
theorem wordB_long {f : Int} {xs : List Int} (h : ¬ xs.length ≤ 16) : wordB f xs = false := by
  unfold wordB; exact decide_eq_false fun ⟨_, h1, _, _⟩ => h h1
theorem wordB_first {f : Int} {xs : List Int} (h : cls (el xs 0) ≠ f) : wordB f xs = false := by
  unfold wordB; exact decide_eq_false fun ⟨_, _, h1, _⟩ => h h1
theorem wordB_some {f : Int} {xs : List Int} {k : Nat} (hk : k < xs.length) (h : isin [3, 4, 2] (cls (el xs k)) = false) : wordB f xs = false := by
  unfold wordB
  refine decide_eq_false fun ⟨_, _, _, h1⟩ => ?_
  have := h1 _ (Chars.el_mem hk)
  rw [h] at this
  cases this
/-- Is each of the classes ys? -/
def allB (ys xs : List Int) : Bool := decide (∀ x ∈ xs, isin ys (cls x) = true)
theorem run_iff (ys : List Int) : ∀ xs : List Int, run ys xs = xs.length ↔ ∀ x ∈ xs, isin ys (cls x) = true
  | [] => by simp [run]
  | x :: xs => by
    have ih := run_iff ys xs
    have hle := Chars.run_le ys xs
    unfold run at ih hle ⊢
    cases hx : isin ys (cls x)
    · simp [hx]
    · simp only [List.takeWhile_cons, hx, if_true, List.length_cons, List.mem_cons, forall_eq_or_imp, true_and]
      rw [← ih]
      omega
theorem run_allB (ys xs : List Int) : ((run ys xs : Int) == (xs.length : Int)) = allB ys xs := by
  rw [Bool.eq_iff_iff]
  unfold allB
  rw [decide_eq_true_iff, ← run_iff]
  simp
  omega
theorem wordB_of_allB (f : Int) (xs : List Int) (h0 : xs ≠ []) (h1 : xs.length ≤ 16) (h2 : cls (el xs 0) = f) : wordB f xs = allB [3, 4, 2] xs := by
  unfold wordB allB
  rw [decide_eq_decide]
  exact ⟨fun h => h.2.2.2, fun h => ⟨h0, h1, h2, h⟩⟩

def nameB (s : ByteArray) : Bool := wordB 3 (ints s.data.toList) && decide (kwN s.data.toList = 0)
def exnB (s : ByteArray) : Bool := wordB 4 (ints s.data.toList)

/-! ### Numbers -/
theorem digit_iff (c : Int) : cls c = 2 ↔ 48 ≤ c ∧ c ≤ 57 := by
  unfold cls
  constructor
  · intro h
    by_cases a : 48 ≤ c ∧ c ≤ 57
    · exact a
    exfalso
    rw [if_neg a] at h
    split at h
    · omega
    split at h
    · omega
    split at h
    · omega
    split at h <;> omega
  · intro h
    have nb : ¬ (c = 32 ∨ c = 9 ∨ c = 10) := by omega
    rw [if_neg nb, if_pos h]
/-- Is each a digit? -/
def digB (l : List UInt8) : Bool := decide (∀ c ∈ l, 48 ≤ c.toNat ∧ c.toNat ≤ 57)
theorem digB_allB (l : List UInt8) : allB [2] (ints l) = digB l := by
  unfold allB digB ints isin
  rw [decide_eq_decide]
  simp only [List.mem_map, forall_exists_index, and_imp, forall_apply_eq_imp_iff₂, decide_eq_true_eq, List.mem_singleton, digit_iff]
  exact ⟨fun h c hc => by have := h c hc; omega, fun h c hc => by have := h c hc; omega⟩
theorem digB_all {l : List UInt8} (h : digB l = true) : ∀ c ∈ l, 48 ≤ c.toNat ∧ c.toNat ≤ 57 := of_decide_eq_true h

/-- The number that digits spell, behind one that has been read. -/
@[irreducible] def decStep (n : Nat) (c : UInt8) : Nat := 10 * n + (c.toNat - 48)
theorem decStep_eq (n : Nat) (c : UInt8) : decStep n c = 10 * n + (c.toNat - 48) := by unfold decStep; with_reducible rfl
def decFrom (n : Nat) (l : List UInt8) : Nat := l.foldl decStep n
theorem decFrom_nil (n : Nat) : decFrom n [] = n := rfl
theorem decFrom_cons (n : Nat) (c : UInt8) (r : List UInt8) : decFrom n (c :: r) = decFrom (10 * n + (c.toNat - 48)) r := by
  unfold decFrom
  rw [List.foldl_cons, decStep_eq]
def decVal (l : List UInt8) : Nat := decFrom 0 l
theorem decVal_one (c : UInt8) : decVal [c] = c.toNat - 48 := by
  unfold decVal
  rw [decFrom_cons, decFrom_nil]
  omega
theorem decFrom_ge (l : List UInt8) : ∀ n : Nat, n ≤ decFrom n l := by
  induction l with
  | nil => intro n; exact Nat.le_refl n
  | cons c r ih =>
    intro n
    have := ih (10 * n + (c.toNat - 48))
    rw [decFrom_cons]
    omega
theorem decFrom_append (l r : List UInt8) (n : Nat) : decFrom n (l ++ r) = decFrom (decFrom n l) r := by
  unfold decFrom
  rw [List.foldl_append]
theorem decVal_snoc (l : List UInt8) (c : UInt8) : decVal (l ++ [c]) = 10 * decVal l + (c.toNat - 48) := by
  unfold decVal
  rw [decFrom_append, decFrom_cons, decFrom_nil]

def numB (l : List UInt8) : Bool := decide (l ≠ []) && digB l && !(decide (l.head? = some 48) && decide (1 < l.length)) && decide (decVal l ≤ 2147483647)
/-- The number; 0. -/
def numV (l : List UInt8) : Int := if numB l = true then (decVal l : Int) else 0

theorem numB_of (l : List UInt8) (h0 : l ≠ []) (h1 : digB l = true) (h2 : ¬ (l.head? = some 48 ∧ 1 < l.length)) (h3 : decVal l ≤ 2147483647) : numB l = true := by
  unfold numB
  have h2' : (decide (l.head? = some 48) && decide (1 < l.length)) = false := by
    rw [Bool.eq_false_iff]
    intro h
    rw [Bool.and_eq_true, decide_eq_true_iff, decide_eq_true_iff] at h
    exact h2 h
  rw [decide_eq_true h0, h1, h2', decide_eq_true h3]
  rfl
theorem numB_true {l : List UInt8} (h : numB l = true) : l ≠ [] ∧ digB l = true ∧ ¬ (l.head? = some 48 ∧ 1 < l.length) ∧ decVal l ≤ 2147483647 := by
  unfold numB at h
  simp only [Bool.and_eq_true, Bool.not_eq_true', Bool.and_eq_false_iff, decide_eq_true_iff, decide_eq_false_iff_not] at h
  obtain ⟨⟨⟨h0, h1⟩, h2⟩, h3⟩ := h
  exact ⟨h0, h1, fun h => by rcases h2 with h2 | h2; exact h2 h.1; exact h2 h.2, h3⟩

/-- What ParseUint's own reading says of digits alone. -/
theorem parse_dec (M : Nat) (hM : M < 18446744073709551616) : ∀ (l : List UInt8) (acc : Nat), (∀ c ∈ l, 48 ≤ c.toNat ∧ c.toNat ≤ 57) → acc ≤ M →
    (Lib.parseUintM M acc l = .ok (decFrom acc l) ∧ decFrom acc l ≤ M) ∨ (Lib.parseUintM M acc l = .range ∧ M < decFrom acc l)
  | [], acc, _, h => .inl ⟨rfl, h⟩
  | c :: r, acc, hd, h => by
    have hc := hd c (by simp)
    have hr : ∀ x ∈ r, 48 ≤ x.toNat ∧ x.toNat ≤ 57 := fun x hx => hd x (by simp [hx])
    have hge := decFrom_ge r (10 * acc + (c.toNat - 48))
    rw [decFrom_cons]
    simp only [Lib.parseUintM, hc, and_self, if_true]
    by_cases h1 : 1844674407370955162 ≤ acc
    · rw [if_pos h1]
      exact .inr ⟨rfl, by omega⟩
    · rw [if_neg h1, Nat.mul_comm acc 10]
      by_cases h2 : M < 10 * acc + (c.toNat - 48)
      · rw [if_pos h2]
        exact .inr ⟨rfl, by omega⟩
      · rw [if_neg h2]
        exact parse_dec M hM r _ hr (by omega)
/-- What ParseInt says of digits alone. -/
theorem parse_int (l : List UInt8) (h0 : l ≠ []) (hd : digB l = true) :
    (Lib.parseIntB 64 l = .ok (decVal l : Int) ∧ decVal l < 9223372036854775808) ∨ (Lib.parseIntB 64 l = .range ∧ 9223372036854775808 ≤ decVal l) := by
  have hd' := digB_all hd
  cases l with
  | nil => exact absurd rfl h0
  | cons c r =>
    have hc := hd' c (by simp)
    rw [Lib.parseIntB_plain 64 c r (by omega) (by omega)]
    have hu : Lib.parseUintB 64 (c :: r) = Lib.parseUintM 18446744073709551615 0 (c :: r) := by
      unfold Lib.parseUintB
      rw [if_neg (by simp)]
    rw [hu]
    have h63 : (2 : Nat) ^ (64 - 1) = 9223372036854775808 := by decide
    rcases parse_dec 18446744073709551615 (by decide) (c :: r) 0 hd' (Nat.zero_le _) with ⟨h, hle⟩ | ⟨h, hlt⟩
    · rw [h, h63]
      simp only [Lib.signlessC]
      show (_ ∧ decFrom 0 (c :: r) < _) ∨ (_ ∧ _ ≤ decFrom 0 (c :: r))
      by_cases h2 : 9223372036854775808 ≤ decFrom 0 (c :: r)
      · rw [if_pos h2]; exact .inr ⟨rfl, h2⟩
      · rw [if_neg h2]; exact .inl ⟨rfl, by omega⟩
    · rw [h]
      show (_ ∧ decFrom 0 (c :: r) < _) ∨ (_ ∧ _ ≤ decFrom 0 (c :: r))
      exact .inr ⟨rfl, by omega⟩

/-! ### A number's digits -/
theorem head_append (l r : List UInt8) (h : l ≠ []) : (l ++ r).head? = l.head? := by
  cases l with
  | nil => exact absurd rfl h
  | cons c l => rfl
theorem digit_byte (k : Nat) (h : k < 10) : (UInt8.ofNat (48 + k)).toNat = 48 + k := by
  simp; omega
theorem dec_digits (u : Nat) : digB (Lib.decDigits u) = true ∧ decVal (Lib.decDigits u) = u ∧ Lib.decDigits u ≠ [] ∧ ((Lib.decDigits u).head? = some 48 → u = 0) := by
  induction u using Nat.strongRecOn with
  | _ u ih =>
    by_cases h : u < 10
    · rw [Lib.decDigits_one h]
      have hb := digit_byte u h
      refine ⟨?_, ?_, by simp, ?_⟩
      · unfold digB
        refine decide_eq_true fun c hc => ?_
        simp only [List.mem_singleton] at hc
        subst hc
        omega
      · rw [decVal_one]
        omega
      · intro hh
        simp only [List.head?_cons, Option.some.injEq] at hh
        have := congrArg UInt8.toNat hh
        rw [hb] at this
        have e48 : (48 : UInt8).toNat = 48 := rfl
        omega
    · obtain ⟨h1, h2, h3, h4⟩ := ih (u / 10) (by omega)
      rw [Lib.decDigits, dif_neg h]
      have hb := digit_byte (u % 10) (by omega)
      refine ⟨?_, ?_, by simp, ?_⟩
      · unfold digB at h1 ⊢
        have h1' := of_decide_eq_true h1
        refine decide_eq_true fun c hc => ?_
        rw [List.mem_append] at hc
        rcases hc with hc | hc
        · exact h1' c hc
        · simp only [List.mem_singleton] at hc
          subst hc
          omega
      · rw [decVal_snoc, h2]
        omega
      · intro hh
        rw [head_append _ _ h3] at hh
        have := h4 hh
        omega
/-- Digits without noughts ahead are those of their number. -/
theorem digits_snoc (l : List UInt8) (c : UInt8) (hc : 48 ≤ c.toNat ∧ c.toNat ≤ 57) (hv : 0 < decVal l) (h : Lib.decDigits (decVal l) = l) : Lib.decDigits (decVal (l ++ [c])) = l ++ [c] := by
  rw [decVal_snoc, Lib.decDigits, dif_neg (by omega), show (10 * decVal l + (c.toNat - 48)) / 10 = decVal l from by omega, h, show 48 + (10 * decVal l + (c.toNat - 48)) % 10 = c.toNat from by omega]
  simp
theorem digits_back : ∀ (n : Nat) (l : List UInt8), l.length = n → l ≠ [] → digB l = true → ¬ (l.head? = some 48 ∧ 1 < l.length) → Lib.decDigits (decVal l) = l ∧ (l.head? ≠ some 48 → 0 < decVal l)
  | 0, l, hn, h0, _, _ => absurd (List.length_eq_zero_iff.1 hn) h0
  | 1, l, hn, _, hd, _ => by
    match l, hn with
    | [c], _ =>
      have hc := digB_all hd c (by simp)
      have e := decVal_one c
      rw [e, Lib.decDigits_one (by omega), show 48 + (c.toNat - 48) = c.toNat from by omega]
      refine ⟨by simp, fun h => ?_⟩
      have : c ≠ 48 := fun e => h (by simp [e])
      have : c.toNat ≠ 48 := fun e => this (UInt8.toNat_inj.1 e)
      omega
  | n + 2, l, hn, h0, hd, hh => by
    have hl := List.dropLast_concat_getLast h0
    have hlen : l.dropLast.length = n + 1 := by rw [List.length_dropLast]; omega
    have hne : l.dropLast ≠ [] := fun e => by rw [e] at hlen; simp at hlen
    have hd' := digB_all hd
    have hdl : digB l.dropLast = true := decide_eq_true fun c hc => hd' c (List.dropLast_subset l hc)
    have hhead : l.dropLast.head? = l.head? := by
      conv => rhs; rw [← hl, head_append _ _ hne]
    have h48 : l.head? ≠ some 48 := fun e => hh ⟨e, by omega⟩
    obtain ⟨h1, h2⟩ := digits_back (n + 1) l.dropLast hlen hne hdl (fun h => h48 (by rw [← hhead]; exact h.1))
    have hv := h2 (by rw [hhead]; exact h48)
    have hc := hd' (l.getLast h0) (List.getLast_mem h0)
    have := digits_snoc l.dropLast (l.getLast h0) hc hv h1
    rw [hl] at this
    refine ⟨this, fun _ => ?_⟩
    have e : decVal l = 10 * decVal l.dropLast + ((l.getLast h0).toNat - 48) := by
      conv => lhs; rw [← hl]
      exact decVal_snoc _ _
    omega
/-- A text of digits is a number's just if its number's digits are it. -/
theorem numB_iff (l : List UInt8) (h0 : l ≠ []) (hd : digB l = true) (hv : decVal l ≤ 2147483647) : (Lib.decDigits (decVal l) = l) ↔ numB l = true := by
  constructor
  · intro h
    refine numB_of l h0 hd (fun ⟨h1, h2⟩ => ?_) hv
    have h4 := (dec_digits (decVal l)).2.2.2
    rw [h] at h4
    have hz := h4 h1
    rw [hz] at h
    rw [← h] at h2
    rw [Lib.decDigits_one (by omega)] at h2
    simp at h2
  · intro h
    have := numB_true h
    exact (digits_back l.length l rfl h0 hd this.2.2.1).1
/-- Of a number's own digits. -/
theorem num_itoa (n : Int) : numB (Lib.itoa n) = decide (0 ≤ n ∧ n ≤ 2147483647) ∧ numV (Lib.itoa n) = if 0 ≤ n ∧ n ≤ 2147483647 then n else 0 := by
  by_cases hn : n < 0
  · have e : numB (Lib.itoa n) = false := by
      rw [Bool.eq_false_iff]
      intro h
      have hd := digB_all (numB_true h).2.1
      unfold Lib.itoa at hd
      rw [if_pos hn] at hd
      have := hd 45 (by simp)
      have e45 : (45 : UInt8).toNat = 45 := rfl
      omega
    refine ⟨by rw [e]; exact (decide_eq_false (by omega)).symm, ?_⟩
    unfold numV
    rw [e, if_neg (by simp), if_neg (by omega)]
  · obtain ⟨u, rfl⟩ := Int.eq_ofNat_of_zero_le (by omega : 0 ≤ n)
    rw [Lib.itoa_nonneg]
    obtain ⟨h1, h2, h3, h4⟩ := dec_digits u
    by_cases hb : u ≤ 2147483647
    · have e : numB (Lib.decDigits u) = true := by
        rw [← numB_iff _ h3 h1 (by omega), h2]
      refine ⟨by rw [e]; exact (decide_eq_true (by omega)).symm, ?_⟩
      unfold numV
      rw [if_pos e, if_pos (by omega), h2]
    · have e : numB (Lib.decDigits u) = false := by
        rw [Bool.eq_false_iff]
        intro h
        have := (numB_true h).2.2.2
        omega
      refine ⟨by rw [e]; exact (decide_eq_false (by omega)).symm, ?_⟩
      unfold numV
      rw [e, if_neg (by simp), if_neg (by omega)]
end Words
end Go.Proofs.YtadpjkehflokcaaGreatDoor
namespace Go.Proofs.YtadpjkehflokcaaGreatDoor
open Go.RowKit
namespace Words
open Chars (ret_i64 ret_bool)

/-- The table of keywords lies as the program's text lays it. -/
def KwLaid (w : World) : Prop := ∀ k, k < 14 → w.cell? ⟨0, k, none⟩ = some (.string (kwT k))
theorem KwLaid.below {w W : World} (h : KwLaid w) (hb : Below w.heap.size w W) : KwLaid W := fun k hk => by
  have hl : 0 < w.heap.size := World.block_lt_of_cell? w _ (h k hk)
  exact (hb.cell (p := ⟨0, k, none⟩) hl).trans (h k hk)

theorem kw_index (k : Nat) (hk : k < 14) (W : World) :
    (Instr.index 155 (.agg #[.string (kwT 0), .string (kwT 1), .string (kwT 2), .string (kwT 3), .string (kwT 4), .string (kwT 5), .string (kwT 6), .string (kwT 7), .string (kwT 8), .string (kwT 9), .string (kwT 10), .string (kwT 11), .string (kwT 12), .string (kwT 13)]) (.int .i64 (k : Int))).run Tryz.prog W = .ok (.string (kwT k)) W := by
  have : k = 0 ∨ k = 1 ∨ k = 2 ∨ k = 3 ∨ k = 4 ∨ k = 5 ∨ k = 6 ∨ k = 7 ∨ k = 8 ∨ k = 9 ∨ k = 10 ∨ k = 11 ∨ k = 12 ∨ k = 13 := by omega
  rcases this with rfl | rfl | rfl | rfl | rfl | rfl | rfl | rfl | rfl | rfl | rfl | rfl | rfl | rfl <;> (show _ = _; kernel_rfl)

set_option maxHeartbeats 400000 in
theorem keyword_walk (s : ByteArray) (w : World) (hl : KwLaid w) :
    Calls Tryz.prog 123 #[.string s] w fun e w' => e = .returned (.int .i64 (kwN s.data.toList : Nat)) ∧ w = w' := by
  have c0 := hl 0 (by omega); have c1 := hl 1 (by omega); have c2 := hl 2 (by omega); have c3 := hl 3 (by omega); have c4 := hl 4 (by omega); have c5 := hl 5 (by omega); have c6 := hl 6 (by omega)
  have c7 := hl 7 (by omega); have c8 := hl 8 (by omega); have c9 := hl 9 (by omega); have c10 := hl 10 (by omega); have c11 := hl 11 (by omega); have c12 := hl 12 (by omega); have c13 := hl 13 (by omega)
  clear hl
  go_enter Tryz.func123, Tryz.ntmps123
  go_wp2
  clear c0 c1 c2 c3 c4 c5 c6 c7 c8 c9 c10 c11 c12 c13
  go_loop [3, 4, 6] (fun _ _ i => ∃ k : Nat, k ≤ 14 ∧ i = .int .i64 k ∧ ∀ j, j < k → kwT j ≠ s) (fun _ _ i => 14 - (intOf i).toNat)
  case atStart => exact ⟨0, by omega, rfl, fun j hj => by omega⟩
  case round =>
    obtain ⟨k, hk, rfl, hn⟩ := hrel
    have HN := Lib.hid hn
    clear hn
    by_cases hlt : k < 14
    · have hx := kw_index k hlt
      by_cases he : kwT k = s
      · have he' := str_yes he
        have HE := Lib.hid he; clear he
        go_wp2
        go_ret
        refine ⟨ret_i64 ?_, rfl⟩
        rw [kwN_hit s k hlt HE.out HN.out]
        omega
      · have he' := str_no he
        have HE := Lib.hid he; clear he
        go_wp2
        go_round
        case rel =>
          refine ⟨k + 1, by omega, by go_num, fun j hj => ?_⟩
          by_cases hjk : j = k
          · rw [hjk]; exact HE.out
          · exact HN.out j (by omega)
        case measure => simp [intOf]; omega
    · go_wp2
      go_ret
      refine ⟨ret_i64 ?_, rfl⟩
      rw [kwN_miss s fun j hj => HN.out j (by omega)]
      rfl

theorem refKeywords_walk (w : World) :
    Calls Tryz.prog 133 #[] w fun e w' => e = .returned (.slice (some ⟨w.heap.size, 0, none⟩) 14 14) ∧ Below w.heap.size w w' ∧ ∀ k, k < 14 → w'.cell? ⟨w.heap.size, k, none⟩ = some (.string (kwT k)) := by
  go_enter Tryz.func133, Tryz.ntmps133
  go_wp2
  go_ret
  refine ⟨rfl, (Below.refl _ _).alloc (Nat.le_refl _) _, fun k hk => ?_⟩
  have : k = 0 ∨ k = 1 ∨ k = 2 ∨ k = 3 ∨ k = 4 ∨ k = 5 ∨ k = 6 ∨ k = 7 ∨ k = 8 ∨ k = 9 ∨ k = 10 ∨ k = 11 ∨ k = 12 ∨ k = 13 := by omega
  rcases this with rfl | rfl | rfl | rfl | rfl | rfl | rfl | rfl | rfl | rfl | rfl | rfl | rfl | rfl <;> simp [go_sem, kwT, kwTexts]

set_option maxHeartbeats 400000 in
theorem refKeyword_walk (s : ByteArray) (w : World) :
    Calls Tryz.prog 116 #[.string s] w fun e w' => e = .returned (.int .i64 (kwN s.data.toList : Nat)) ∧ Below w.heap.size w w' := by
  go_enter Tryz.func116, Tryz.ntmps116
  go_wp2_with (fail)
  refine (refKeywords_walk _).mono ?_
  rintro e w1 ⟨rfl, hb, hc⟩
  have HB := Lib.hid hb; have HC := Lib.hid hc
  clear hb hc
  go_wp2
  go_loop [4, 8] (fun _ i => ∃ k : Nat, k ≤ 14 ∧ i = .int .i64 k ∧ ∀ j, j < k → kwT j ≠ s) (fun _ i => 14 - (intOf i).toNat)
  case atStart => exact ⟨0, by omega, rfl, fun j hj => by omega⟩
  case round =>
    obtain ⟨k, hk, rfl, hn⟩ := hrel
    have HN := Lib.hid hn
    clear hn
    by_cases hlt : k < 14
    · have hx := HC.out k hlt
      by_cases he : kwT k = s
      · have he' := str_yes he
        have HE := Lib.hid he; clear he
        go_wp2
        go_ret
        refine ⟨ret_i64 ?_, HB.out⟩
        rw [kwN_hit s k hlt HE.out HN.out]
        omega
      · have he' := str_no he
        have HE := Lib.hid he; clear he
        go_wp2
        go_round
        case rel =>
          refine ⟨k + 1, by omega, by go_num, fun j hj => ?_⟩
          by_cases hjk : j = k
          · rw [hjk]; exact HE.out
          · exact HN.out j (by omega)
        case measure => simp [intOf]; omega
    · go_wp2
      go_ret
      refine ⟨ret_i64 ?_, HB.out⟩
      rw [kwN_miss s fun j hj => HN.out j (by omega)]
      rfl
end Words
end Go.Proofs.YtadpjkehflokcaaGreatDoor
namespace Go.Proofs.YtadpjkehflokcaaGreatDoor
open Go.RowKit Go.ChangeShapes
namespace Words

/-- AN ARRAY OF TEXTS THAT READS AS A TABLE HOLDS THE TABLE's TEXTS, cell for cell. -/
theorem cells_of_strs {H : Type} {enc : TypeId × Value → H} {P : Program} {w : World} {base : Nat} {sp : Nat → Bool} {held : Bool} {fuel : Nat} {t e : TypeId} {n : Nat} {cs : List Value} {zs : List (List UInt8)} {p : List MemPlace}
    (ht : P.underlying t = some (.array n e)) (he : P.underlying e = some .string) (hce : P.cellsOf e = 1) (hct : P.cellsOf t = n)
    (h : DataW.trod enc P w base sp held fuel t cs = some (.agg (zs.map fun z => .lit (.string z)), p)) : cs = zs.map fun z => Value.string ⟨z.toArray⟩ := by
  cases fuel with
  | zero => simp [DataW.trod] at h
  | succ fuel =>
    simp only [DataW.trod, ht, hce, hct, Nat.mul_one] at h
    split at h
    · rename_i hl
      obtain ⟨xs, hm, hx⟩ := Option.map_eq_some_iff.1 h
      have hxs : xs.map (·.1) = zs.map fun z => (DataW.lit (.string z) : DataW H) := by
        have := congrArg Prod.fst hx
        simpa using this
      have hxl : xs.length = n := by simpa using Lib.mapM_length hm
      have hzl : zs.length = n := by
        have := congrArg List.length hxs
        simp at this
        omega
      apply List.ext_getElem?
      intro i
      by_cases hi : i < n
      · obtain ⟨b, hb, hf⟩ := Lib.mapM_at hm i i (by simp [hi])
        obtain ⟨z, hc, rfl, _⟩ := DataW.trod_string he hf
        have h1 : cs[i]? = some (.string z) := by
          have := congrArg (·[0]?) hc
          simpa [List.getElem?_take, List.getElem?_drop] using this
        have h2 : (xs.map (·.1))[i]? = some (DataW.lit (.string z.data.toList) : DataW H) := by simp [hb]
        rw [hxs] at h2
        simp only [List.getElem?_map, Option.map_eq_some_iff, DataW.lit.injEq, Lit.string.injEq] at h2
        obtain ⟨z', hz', e⟩ := h2
        simp [h1, hz', e]
      · rw [List.getElem?_eq_none (by omega), List.getElem?_eq_none (by simp; omega)]
    · cases h

theorem gKw : Tryz.prog.globalNamed "enclave/words.keywords" = some 0 := by kernel_rfl
theorem tKw : (Tryz.prog.globals[0]?).map (·.type) = some 155 := by kernel_rfl
theorem kwLaid_of {W : World} {r : List (String × DataW Unit)} (h : laidMet Tryz.prog (("enclave/words.keywords", Rows.laid_enclave_words_keywords) :: r) W) : KwLaid W := by
  obtain ⟨ps, ⟨g', t', cs, fuel, p, q, hg', ht', hvar, hd, _, _⟩, _⟩ := h
  obtain rfl := Option.some.inj (gKw.symm.trans hg')
  obtain rfl := Option.some.inj (tKw.symm.trans ht')
  have hcs := cells_of_strs (zs := kwTexts) Tryz.underlying155 Tryz.underlying9 (by kernel_rfl) (by kernel_rfl) hd
  intro k hk
  have := World.var?_cell gKw hvar k
  obtain ⟨l⟩ := cs
  simp only at hcs
  subst hcs
  have hk' : k < kwTexts.length := hk
  rw [this]
  simp [kwT, List.getD, hk']

end Words
end Go.Proofs.YtadpjkehflokcaaGreatDoor
namespace Go.Proofs.YtadpjkehflokcaaGreatDoor
open Go.RowKit
namespace Words
open Chars (ret_i64 ret_bool cls el isin run spanI BytesAt Bytes bytes_new)

theorem size_list (s : ByteArray) : s.data.toList.length = s.size := rfl
theorem ints_size (s : ByteArray) : (ints s.data.toList).length = s.size := by rw [ints_length, size_list]
theorem el_str (s : ByteArray) (k : Nat) (h : k < s.size) : el (ints s.data.toList) k = (s[k].toNat : Int) := by
  rw [el_ints _ k (by rw [size_list]; exact h)]
  rfl
theorem span_zero (ys xs : List Int) : spanI ys xs 0 = (run ys xs : Nat) := by
  unfold spanI
  cases xs with
  | nil => rfl
  | cons x xs => rw [if_pos (by simp)]; rfl
theorem bytesAt_new (w : World) (t : Nat) (s : ByteArray) : BytesAt (Lib.bytesWorld w t s) (some ⟨w.heap.size, 0, none⟩) (ints s.data.toList) := by
  refine .inr ⟨w.heap.size, 0, rfl, fun i hi => ?_⟩
  rw [ints_size] at hi
  rw [Nat.zero_add, Lib.bytesWorld_cell w t s i hi]
  have := el_str s i hi
  unfold el at this
  rw [this, List.getD_eq_getElem?_getD, List.getElem?_eq_getElem (by rw [size_list]; exact hi)]
  rfl

set_option maxHeartbeats 400000 in
theorem whole_walk (s : ByteArray) (q : Option Addr) (m d : Nat) (ys : List Int) (w : World) (hs : s.size ≤ maxLen) (hy : ys.length = m) (hm : m ≤ maxLen) (hq : BytesAt w q ys) :
    Calls Tryz.prog 96 #[.string s, .slice q m d] w fun e w' => e = .returned (.bool (allB ys (ints s.data.toList))) ∧ Below w.heap.size w w' := by
  have hcv := fun W : World => Lib.run_convert_string_bytes (P := Tryz.prog) W 9 22 5 s (u := .string) Tryz.underlying9 Tryz.underlying22 Tryz.underlying5
  have hb : Below w.heap.size w (Lib.bytesWorld w 5 s) := Go.Joins.below_bytesWorld _ _ _ _ (Nat.le_refl _)
  have hc := grownCap_le_maxLen w s.size 0 5 hs
  have hg := grownCap_ge w s.size 0 5
  have HB := Lib.hid hb; have HC := Lib.hid hc; have HG := Lib.hid hg; have HQ := Lib.hid hq; have HY := Lib.hid hy; have HM := Lib.hid hm
  clear hb hc hg hq hy hm
  go_enter Tryz.func96, Tryz.ntmps96
  go_wp2_with (fail)
  refine (Chars.span_walk _ s.size _ (ints s.data.toList) 0 q m d ys _ (ints_size s) HG.out HC.out (bytesAt_new w _ s) (ints_bytes _) HY.out HM.out (HQ.out.below HB.out)).mono ?_
  rintro e w' ⟨rfl, hb2⟩
  have HB2 := Lib.hid (HB.out.trans (hb2.mono HB.out.size)); clear hb2
  unfold maxLen at hs
  go_wp2
  go_ret
  refine ⟨ret_bool ?_, HB2.out⟩
  rw [span_zero, ← ints_size s, run_allB]

theorem cells3 (w : World) (t : Nat) : BytesAt (w.alloc (.cells #[.int .u8 3, .int .u8 4, .int .u8 2] t)) (some ⟨w.heap.size, 0, none⟩) [3, 4, 2] := bytes_new w _ _ _ _ _ rfl rfl

set_option maxHeartbeats 400000 in
theorem begins_walk (s : ByteArray) (f : Int) (w : World) (hs : s.size ≤ maxLen) :
    Calls Tryz.prog 63 #[.string s, .int .u8 f] w fun e w' => e = .returned (.bool (wordB f (ints s.data.toList))) ∧ Below w.heap.size w w' := by
  by_cases h0 : s.size = 0
  · have hn : s.toList = [] := by rw [Lib.toList_data]; exact List.length_eq_zero_iff.1 h0
    have hr : wordB f (ints s.data.toList) = false := by
      rw [show s.data.toList = [] from List.length_eq_zero_iff.1 h0]; exact wordB_nil f
    have HR := Lib.hid hr
    clear hr h0
    go_enter Tryz.func63, Tryz.ntmps63
    go_wp2_with (fail)
    go_ret
    exact ⟨ret_bool HR.out.symm, Below.refl _ _⟩
  have hne : s.toList ≠ [] := by rw [Lib.toList_data]; exact fun e => h0 (by rw [← size_list, e]; rfl)
  have hne' : (!s.toList.isEmpty) = true := by simpa using hne
  have hpos : 0 < s.size := by omega
  clear h0
  by_cases h1 : s.size ≤ 16
  · have hcell := el_str s 0 hpos
    have hby := (ints_bytes s.data.toList).el (k := 0) (by rw [ints_size]; exact hpos)
    rw [hcell] at hby
    by_cases h2 : cls (s[0].toNat : Int) = f
    · have hr := wordB_of_allB f (ints s.data.toList) (by intro e; have := ints_size s; rw [e] at this; simp at this; omega) (by rw [ints_size]; exact h1) (by rw [hcell]; exact h2)
      have HR := Lib.hid hr; have H2 := Lib.hid h2; have HBY := Lib.hid hby; have HS := Lib.hid hs
      have h2' : (cls (s[0].toNat : Int) == f) = true := by simpa using h2
      clear hr h2 hby hcell hs
      go_enter Tryz.func63, Tryz.ntmps63
      go_wp2_with (fail)
      refine (Chars.class_walk _ HBY.out.1 HBY.out.2 _).mono ?_
      rintro e w' ⟨rfl, rfl⟩
      go_wp2_with (fail)
      refine (whole_walk s _ 3 3 [3, 4, 2] _ HS.out rfl (by unfold maxLen; omega) (cells3 w _)).mono ?_
      rintro e w' ⟨rfl, hb⟩
      have HB := Lib.hid hb; clear hb
      go_wp2
      go_ret
      exact ⟨ret_bool HR.out.symm, ((Below.refl _ _).alloc (Nat.le_refl _) _).trans (HB.out.mono (by simp))⟩
    · have hr : wordB f (ints s.data.toList) = false := wordB_first (by rw [hcell]; exact h2)
      have h2' : (cls (s[0].toNat : Int) == f) = false := by simpa using h2
      have HR := Lib.hid hr; have H2 := Lib.hid h2; have HBY := Lib.hid hby
      clear hr h2 hby hcell hs
      go_enter Tryz.func63, Tryz.ntmps63
      go_wp2_with (fail)
      refine (Chars.class_walk _ HBY.out.1 HBY.out.2 _).mono ?_
      rintro e w' ⟨rfl, rfl⟩
      go_wp2
      go_ret
      exact ⟨ret_bool HR.out.symm, Below.refl _ _⟩
  · have hr : wordB f (ints s.data.toList) = false := wordB_long (by rw [ints_size]; exact h1)
    have HR := Lib.hid hr
    clear hr
    unfold maxLen at hs
    go_enter Tryz.func63, Tryz.ntmps63
    go_wp2_with (fail)
    go_ret
    exact ⟨ret_bool HR.out.symm, Below.refl _ _⟩

end Words
end Go.Proofs.YtadpjkehflokcaaGreatDoor
namespace Go.Proofs.YtadpjkehflokcaaGreatDoor
open Go.RowKit
namespace Words
open Chars (ret_i64 ret_bool cls el isin run spanI BytesAt Bytes bytes_new)

theorem cells1 (w : World) (t : Nat) : BytesAt (w.alloc (.cells #[.int .u8 2] t)) (some ⟨w.heap.size, 0, none⟩) [2] := bytes_new w _ _ _ _ _ rfl rfl

theorem digits_walk (s : ByteArray) (w : World) (hs : s.size ≤ maxLen) :
    Calls Tryz.prog 143 #[.string s] w fun e w' => e = .returned (.bool (decide (s.data.toList ≠ []) && digB s.data.toList)) ∧ Below w.heap.size w w' := by
  by_cases h0 : s.size = 0
  · have hn : s.toList = [] := by rw [Lib.toList_data]; exact List.length_eq_zero_iff.1 h0
    have hr : (decide (s.data.toList ≠ []) && digB s.data.toList) = false := by
      rw [show s.data.toList = [] from List.length_eq_zero_iff.1 h0]; rfl
    have HR := Lib.hid hr
    clear hr h0
    go_enter Tryz.func143, Tryz.ntmps143
    go_wp2_with (fail)
    go_ret
    exact ⟨ret_bool HR.out.symm, Below.refl _ _⟩
  have hl : s.data.toList ≠ [] := fun e => h0 (by rw [← size_list, e]; rfl)
  have hne : s.toList ≠ [] := by rw [Lib.toList_data]; exact hl
  have hne' : (!s.toList.isEmpty) = true := by simpa using hne
  have hr : (decide (s.data.toList ≠ []) && digB s.data.toList) = allB [2] (ints s.data.toList) := by
    rw [decide_eq_true hl, digB_allB]; rfl
  have HR := Lib.hid hr; have HS := Lib.hid hs
  clear hr h0 hl hs
  go_enter Tryz.func143, Tryz.ntmps143
  go_wp2_with (fail)
  refine (whole_walk s _ 1 1 [2] _ HS.out rfl (by unfold maxLen; omega) (cells1 w _)).mono ?_
  rintro e w' ⟨rfl, hb⟩
  have HB := Lib.hid hb; clear hb
  go_wp2
  go_ret
  exact ⟨ret_bool HR.out.symm, ((Below.refl _ _).alloc (Nat.le_refl _) _).trans (HB.out.mono (by simp))⟩
end Words
end Go.Proofs.YtadpjkehflokcaaGreatDoor
namespace Go.Proofs.YtadpjkehflokcaaGreatDoor
open Go.RowKit
namespace Words
open Chars (ret_i64 ret_bool cls el isin run spanI BytesAt Bytes bytes_new)

theorem class_in (c : Int) : isin [3, 4, 2] c = decide (2 ≤ c ∧ c ≤ 4) := by
  unfold isin
  rw [decide_eq_decide]
  simp only [List.mem_cons, List.not_mem_nil, or_false]
  omega

set_option maxHeartbeats 400000 in
theorem shape_walk (s : ByteArray) (f : Int) (w : World) (hs : s.size ≤ maxLen) :
    Calls Tryz.prog 72 #[.string s, .int .u8 f] w fun e w' => e = .returned (.bool (wordB f (ints s.data.toList))) ∧ Below w.heap.size w w' := by
  unfold maxLen at hs
  by_cases h0 : s.size = 0
  · have hr : wordB f (ints s.data.toList) = false := by
      rw [show s.data.toList = [] from List.length_eq_zero_iff.1 h0]; exact wordB_nil f
    have h0' : ((s.size : Int) == 0) = true := by simp [h0]
    have HR := Lib.hid hr; have H0 := Lib.hid h0
    clear hr h0
    go_enter Tryz.func72, Tryz.ntmps72
    go_wp2_with (fail)
    go_ret
    exact ⟨ret_bool HR.out.symm, Below.refl _ _⟩
  have h0' : ((s.size : Int) == 0) = false := by simpa using h0
  have hpos : 0 < s.size := by omega
  clear h0
  by_cases h1 : s.size ≤ 16
  · have hcell := el_str s 0 hpos
    have hby := (ints_bytes s.data.toList).el (k := 0) (by rw [ints_size]; exact hpos)
    rw [hcell] at hby
    by_cases h2 : cls (s[0].toNat : Int) = f
    · have hr := wordB_of_allB f (ints s.data.toList) (by intro e; have := ints_size s; rw [e] at this; simp at this; omega) (by rw [ints_size]; exact h1) (by rw [hcell]; exact h2)
      have hyes : (∀ j, j < s.size → isin [3, 4, 2] (cls (el (ints s.data.toList) j)) = true) → wordB f (ints s.data.toList) = true := fun h => by
        rw [hr]
        unfold allB
        refine decide_eq_true fun x hx => ?_
        obtain ⟨j, hj, e⟩ := Chars.mem_el hx
        rw [← e]
        exact h j (by rw [← ints_size]; exact hj)
      have HY := Lib.hid hyes; have H2 := Lib.hid h2; have HBY := Lib.hid hby
      have h2' : (cls (s[0].toNat : Int) != f) = false := by simpa using h2
      clear hr hyes h2 hby hcell
      go_enter Tryz.func72, Tryz.ntmps72
      go_wp2_with (fail)
      refine (Chars.refClass_walk _ HBY.out.1 HBY.out.2 _).mono ?_
      rintro e w' ⟨rfl, hb⟩
      have HB := Lib.hid hb; clear hb
      go_wp2
      clear h2'
      go_loopw [5, 6] (fun i _ wr => ∃ k : Nat, k ≤ s.size ∧ i = .int .i64 k ∧ (∀ j, j < k → isin [3, 4, 2] (cls (el (ints s.data.toList) j)) = true) ∧ Below w.heap.size w wr) (fun i _ _ => s.size - (intOf i).toNat)
      case atStart => exact ⟨0, by omega, rfl, fun j hj => by omega, HB.out⟩
      case round =>
        obtain ⟨k, hk, rfl, ha, hb⟩ := hrel
        have HA := Lib.hid ha; have HW := Lib.hid hb
        clear ha hb
        by_cases hlt : k < s.size
        · have hck := el_str s k hlt
          have hbk := (ints_bytes s.data.toList).el (k := k) (by rw [ints_size]; exact hlt)
          have hci := class_in (cls (s[k].toNat : Int))
          rw [hck] at hbk
          have HCK := Lib.hid hck; have HBK := Lib.hid hbk; have HCI := Lib.hid hci
          clear hck hbk hci
          go_wp2_with (fail)
          refine (Chars.refClass_walk _ HBK.out.1 HBK.out.2 _).mono ?_
          rintro e w' ⟨rfl, hb⟩
          have HW2 := Lib.hid (HW.out.trans (hb.mono HW.out.size)); clear hb
          have hin : isin [3, 4, 2] (cls (el (ints s.data.toList) k)) = isin [3, 4, 2] (cls (s[k].toNat : Int)) := by rw [HCK.out]
          have HIN := Lib.hid hin; clear hin
          generalize hc : cls (s[k].toNat : Int) = c at *
          have HCC := Lib.hid hc; clear hc
          by_cases hc2 : c < 2
          · have hno : isin [3, 4, 2] c = false := by rw [HCI.out]; exact decide_eq_false (by omega)
            have HNO := Lib.hid hno; clear hno
            go_wp2
            go_ret
            exact ⟨ret_bool (wordB_some (k := k) (by rw [ints_size]; exact hlt) (by rw [HIN.out]; exact HNO.out)).symm, HW2.out⟩
          by_cases hc4 : 4 < c
          · have hno : isin [3, 4, 2] c = false := by rw [HCI.out]; exact decide_eq_false (by omega)
            have HNO := Lib.hid hno; clear hno
            go_wp2
            go_ret
            exact ⟨ret_bool (wordB_some (k := k) (by rw [ints_size]; exact hlt) (by rw [HIN.out]; exact HNO.out)).symm, HW2.out⟩
          · have hyes : isin [3, 4, 2] c = true := by rw [HCI.out]; exact decide_eq_true (by omega)
            have HYS := Lib.hid hyes; clear hyes
            go_wp2
            go_roundw
            case rel =>
              refine ⟨k + 1, by omega, by go_num, fun j hj => ?_, HW2.out⟩
              by_cases hjk : j = k
              · rw [hjk, HIN.out]; exact HYS.out
              · exact HA.out j (by omega)
            case measure => simp [intOf]; omega
        · go_wp2
          go_ret
          exact ⟨ret_bool (HY.out fun j hj => HA.out j (by omega)).symm, HW.out⟩
    · have hr : wordB f (ints s.data.toList) = false := wordB_first (by rw [hcell]; exact h2)
      have h2' : (cls (s[0].toNat : Int) != f) = true := by simpa using h2
      have HR := Lib.hid hr; have H2 := Lib.hid h2; have HBY := Lib.hid hby
      clear hr h2 hby hcell
      go_enter Tryz.func72, Tryz.ntmps72
      go_wp2_with (fail)
      refine (Chars.refClass_walk _ HBY.out.1 HBY.out.2 _).mono ?_
      rintro e w' ⟨rfl, hb⟩
      have HB := Lib.hid hb; clear hb
      go_wp2
      go_ret
      exact ⟨ret_bool HR.out.symm, HB.out⟩
  · have hr : wordB f (ints s.data.toList) = false := wordB_long (by rw [ints_size]; exact h1)
    have HR := Lib.hid hr
    clear hr
    go_enter Tryz.func72, Tryz.ntmps72
    go_wp2_with (fail)
    go_ret
    exact ⟨ret_bool HR.out.symm, Below.refl _ _⟩

theorem refName_walk (s : ByteArray) (w : World) (hs : s.size ≤ maxLen) :
    Calls Tryz.prog 103 #[.string s] w fun e w' => e = .returned (.bool (nameB s)) ∧ Below w.heap.size w w' := by
  cases hw : wordB 3 (ints s.data.toList)
  · have hr : nameB s = false := by unfold nameB; rw [hw]; rfl
    have HR := Lib.hid hr; have HW := Lib.hid hw
    clear hr hw
    go_enter Tryz.func103, Tryz.ntmps103
    go_wp2_with (fail)
    refine (shape_walk s 3 _ hs).mono ?_
    rw [HW.out]
    rintro e w' ⟨rfl, hb⟩
    have HB := Lib.hid hb; clear hb
    go_wp2
    go_ret
    exact ⟨ret_bool HR.out.symm, HB.out⟩
  · have hr : nameB s = ((kwN s.data.toList : Int) == 0) := by
      unfold nameB; rw [hw, Bool.true_and, Bool.eq_iff_iff]; simp
    have HR := Lib.hid hr; have HW := Lib.hid hw
    clear hr hw
    go_enter Tryz.func103, Tryz.ntmps103
    go_wp2_with (fail)
    refine (shape_walk s 3 _ hs).mono ?_
    rw [HW.out]
    rintro e w' ⟨rfl, hb⟩
    have HB := Lib.hid hb; clear hb
    go_wp2_with (fail)
    refine (refKeyword_walk s _).mono ?_
    rintro e w2 ⟨rfl, hb⟩
    have HB2 := Lib.hid (HB.out.trans (hb.mono HB.out.size)); clear hb
    generalize kwN s.data.toList = N at *
    go_wp2
    go_ret
    exact ⟨ret_bool HR.out.symm, HB2.out⟩
theorem refExn_walk (s : ByteArray) (w : World) (hs : s.size ≤ maxLen) :
    Calls Tryz.prog 36 #[.string s] w fun e w' => e = .returned (.bool (exnB s)) ∧ Below w.heap.size w w' := by
  go_enter Tryz.func36, Tryz.ntmps36
  go_wp2_with (fail)
  refine (shape_walk s 4 _ hs).mono ?_
  rintro e w' ⟨rfl, hb⟩
  have HB := Lib.hid hb; clear hb
  go_wp2
  go_ret
  exact ⟨rfl, HB.out⟩
end Words
end Go.Proofs.YtadpjkehflokcaaGreatDoor
namespace Go.Proofs.YtadpjkehflokcaaGreatDoor
open Go.RowKit
namespace Words
open Chars (ret_i64 ret_bool cls el isin run spanI BytesAt Bytes bytes_new)

/-- Text i of a list. -/
def sel (ss : List ByteArray) (i : Nat) : ByteArray := ss.getD i ByteArray.empty
theorem sel_mem {ss : List ByteArray} {i : Nat} (h : i < ss.length) : sel ss i ∈ ss := by
  unfold sel
  rw [List.getD_eq_getElem?_getD, List.getElem?_eq_getElem h]
  exact List.getElem_mem h
/-- What a slice of texts holds: nothing is asked of an empty one. -/
def StrsAt (w : World) (p : Option Addr) (ss : List ByteArray) : Prop :=
  ss = [] ∨ ∃ b o, p = some ⟨b, o, none⟩ ∧ ∀ i, i < ss.length → w.cell? ⟨b, o + i, none⟩ = some (.string (sel ss i))
theorem StrsAt.get {w : World} {p : Option Addr} {ss : List ByteArray} (h : StrsAt w p ss) (k : Nat) (hk : k < ss.length) :
    ∃ b o, p = some ⟨b, o, none⟩ ∧ ∀ i, i < ss.length → w.cell? ⟨b, o + i, none⟩ = some (.string (sel ss i)) := by
  rcases h with rfl | h
  · simp at hk
  · exact h
theorem StrsAt.below {w W : World} {p : Option Addr} {ss : List ByteArray} (h : StrsAt w p ss) (hb : Below w.heap.size w W) : StrsAt W p ss := by
  rcases h with rfl | ⟨b, o, hp, hc⟩
  · exact .inl rfl
  · refine .inr ⟨b, o, hp, fun i hi => ?_⟩
    have hl : b < w.heap.size := World.block_lt_of_cell? w _ (hc i hi)
    exact (hb.cell (p := ⟨b, o + i, none⟩) hl).trans (hc i hi)
theorem strs_one (w : World) (t : Nat) (s : ByteArray) : StrsAt (w.alloc (.cells #[.string s] t)) (some ⟨w.heap.size, 0, none⟩) [s] := by
  refine .inr ⟨w.heap.size, 0, rfl, fun i hi => ?_⟩
  have : i = 0 := by simp at hi; omega
  subst this
  simp [go_sem, sel]

def Sizes (ss : List ByteArray) : Prop := ∀ s ∈ ss, s.size ≤ maxLen
/-- What a closure says of a text, in whatever later world. -/
def Tells (c : Nat) (P : ByteArray → Bool) (w : World) : Prop :=
  ∀ (W : World) (s : ByteArray), Below w.heap.size w W → s.size ≤ maxLen → Calls Tryz.prog c #[.string s] W fun e w' => e = .returned (.bool (P s)) ∧ Below W.heap.size W w'

theorem all_no {ss : List ByteArray} {P : ByteArray → Bool} {k : Nat} (hk : k < ss.length) (h : P (sel ss k) = false) : ss.all P = false := by
  rw [Bool.eq_false_iff]
  intro ha
  have := List.all_eq_true.1 ha _ (sel_mem hk)
  rw [h] at this
  cases this
theorem all_yes {ss : List ByteArray} {P : ByteArray → Bool} (h : ∀ j, j < ss.length → P (sel ss j) = true) : ss.all P = true := by
  rw [List.all_eq_true]
  intro s hs
  obtain ⟨i, hi, e⟩ := List.getElem_of_mem hs
  have := h i hi
  unfold sel at this
  rw [List.getD_eq_getElem?_getD, List.getElem?_eq_getElem hi] at this
  rw [← e]
  exact this

set_option maxHeartbeats 400000 in
theorem all_name_walk (p : Option Addr) (n d : Nat) (ss : List ByteArray) (P : ByteArray → Bool) (w : World) (hn : ss.length = n) (hm : n ≤ maxLen) (hp : StrsAt w p ss) (hz : Sizes ss) (hc : Tells 122 P w) :
    Calls Tryz.prog 61 #[.slice p n d, .func (.func 122) #[] #[]] w fun e w' => e = .returned (.bool (ss.all P)) ∧ Below w.heap.size w w' := by
  unfold maxLen at hm
  have HN := Lib.hid hn; have HP := Lib.hid hp; have HZ := Lib.hid hz; have HC := Lib.hid hc
  clear hn hp hz hc
  go_enter Tryz.func61, Tryz.ntmps61
  go_wp2
  go_loopw [6, 9] (fun _ i wr => ∃ k : Nat, k ≤ n ∧ i = .int .i64 k ∧ (∀ j, j < k → P (sel ss j) = true) ∧ Below w.heap.size w wr) (fun _ i _ => n - (intOf i).toNat)
  case atStart => exact ⟨0, by omega, rfl, fun j hj => by omega, Below.refl _ _⟩
  case round =>
    obtain ⟨k, hk, rfl, ha, hb⟩ := hrel
    have HA := Lib.hid ha; have HB := Lib.hid hb
    clear ha hb
    by_cases hlt : k < n
    · have hk' : k < ss.length := by rw [HN.out]; exact hlt
      obtain ⟨b, o, rfl, hcs⟩ := (HP.out.below HB.out).get k hk'
      have hck := hcs k hk'
      have hsz := HZ.out _ (sel_mem hk')
      have HSZ := Lib.hid hsz; have HK := Lib.hid hk'
      clear hcs hsz hk'
      go_wp2_with (fail)
      refine (HC.out _ (sel ss k) HB.out HSZ.out).mono ?_
      rintro e w' ⟨rfl, hb2⟩
      have HB2 := Lib.hid (HB.out.trans (hb2.mono HB.out.size)); clear hb2
      cases ht : P (sel ss k)
      · have HT := Lib.hid ht; clear ht
        go_wp2
        go_ret
        exact ⟨ret_bool (all_no HK.out HT.out).symm, HB2.out⟩
      · have HT := Lib.hid ht; clear ht
        go_wp2
        go_roundw
        case rel =>
          refine ⟨k + 1, by omega, by go_num, fun j hj => ?_, HB2.out⟩
          by_cases hjk : j = k
          · rw [hjk]; exact HT.out
          · exact HA.out j (by omega)
        case measure => simp [intOf]; omega
    · go_wp2
      go_ret
      refine ⟨ret_bool (all_yes fun j hj => HA.out j ?_).symm, HB.out⟩
      have := HN.out
      omega

set_option maxHeartbeats 400000 in
theorem all_exn_walk (p : Option Addr) (n d : Nat) (ss : List ByteArray) (P : ByteArray → Bool) (w : World) (hn : ss.length = n) (hm : n ≤ maxLen) (hp : StrsAt w p ss) (hz : Sizes ss) (hc : Tells 62 P w) :
    Calls Tryz.prog 61 #[.slice p n d, .func (.func 62) #[] #[]] w fun e w' => e = .returned (.bool (ss.all P)) ∧ Below w.heap.size w w' := by
  unfold maxLen at hm
  have HN := Lib.hid hn; have HP := Lib.hid hp; have HZ := Lib.hid hz; have HC := Lib.hid hc
  clear hn hp hz hc
  go_enter Tryz.func61, Tryz.ntmps61
  go_wp2
  go_loopw [6, 9] (fun _ i wr => ∃ k : Nat, k ≤ n ∧ i = .int .i64 k ∧ (∀ j, j < k → P (sel ss j) = true) ∧ Below w.heap.size w wr) (fun _ i _ => n - (intOf i).toNat)
  case atStart => exact ⟨0, by omega, rfl, fun j hj => by omega, Below.refl _ _⟩
  case round =>
    obtain ⟨k, hk, rfl, ha, hb⟩ := hrel
    have HA := Lib.hid ha; have HB := Lib.hid hb
    clear ha hb
    by_cases hlt : k < n
    · have hk' : k < ss.length := by rw [HN.out]; exact hlt
      obtain ⟨b, o, rfl, hcs⟩ := (HP.out.below HB.out).get k hk'
      have hck := hcs k hk'
      have hsz := HZ.out _ (sel_mem hk')
      have HSZ := Lib.hid hsz; have HK := Lib.hid hk'
      clear hcs hsz hk'
      go_wp2_with (fail)
      refine (HC.out _ (sel ss k) HB.out HSZ.out).mono ?_
      rintro e w' ⟨rfl, hb2⟩
      have HB2 := Lib.hid (HB.out.trans (hb2.mono HB.out.size)); clear hb2
      cases ht : P (sel ss k)
      · have HT := Lib.hid ht; clear ht
        go_wp2
        go_ret
        exact ⟨ret_bool (all_no HK.out HT.out).symm, HB2.out⟩
      · have HT := Lib.hid ht; clear ht
        go_wp2
        go_roundw
        case rel =>
          refine ⟨k + 1, by omega, by go_num, fun j hj => ?_, HB2.out⟩
          by_cases hjk : j = k
          · rw [hjk]; exact HT.out
          · exact HA.out j (by omega)
        case measure => simp [intOf]; omega
    · go_wp2
      go_ret
      refine ⟨ret_bool (all_yes fun j hj => HA.out j ?_).symm, HB.out⟩
      have := HN.out
      omega

theorem name1_walk (s : ByteArray) (w : World) (hs : s.size ≤ maxLen) (hl : KwLaid w) :
    Calls Tryz.prog 122 #[.string s] w fun e w' => e = .returned (.bool (nameB s)) ∧ Below w.heap.size w w' := by
  have hk := keyword_walk s
  have HK := Lib.hid hk; have HL := Lib.hid hl
  clear hk hl
  cases hw : wordB 3 (ints s.data.toList)
  · have hr : nameB s = false := by unfold nameB; rw [hw]; rfl
    have HR := Lib.hid hr; have HW := Lib.hid hw
    clear hr hw
    go_enter Tryz.func122, Tryz.ntmps122
    go_wp2_with (fail)
    refine (begins_walk s 3 _ hs).mono ?_
    rw [HW.out]
    rintro e w' ⟨rfl, hb⟩
    have HB := Lib.hid hb; clear hb
    go_wp2
    go_ret
    exact ⟨ret_bool HR.out.symm, HB.out⟩
  · have hr : nameB s = ((kwN s.data.toList : Int) == 0) := by
      unfold nameB; rw [hw, Bool.true_and, Bool.eq_iff_iff]; simp
    have HR := Lib.hid hr; have HW := Lib.hid hw
    clear hr hw
    go_enter Tryz.func122, Tryz.ntmps122
    go_wp2_with (fail)
    refine (begins_walk s 3 _ hs).mono ?_
    rw [HW.out]
    rintro e w' ⟨rfl, hb⟩
    have HB := Lib.hid hb; clear hb
    go_wp2_with (fail)
    refine (HK.out _ (HL.out.below HB.out)).mono ?_
    rintro e w2 ⟨rfl, rfl⟩
    generalize kwN s.data.toList = N at *
    go_wp2
    go_ret
    exact ⟨ret_bool HR.out.symm, HB.out⟩

theorem exn1_walk (s : ByteArray) (w : World) (hs : s.size ≤ maxLen) :
    Calls Tryz.prog 62 #[.string s] w fun e w' => e = .returned (.bool (exnB s)) ∧ Below w.heap.size w w' := by
  go_enter Tryz.func62, Tryz.ntmps62
  go_wp2_with (fail)
  refine (begins_walk s 4 _ hs).mono ?_
  rintro e w' ⟨rfl, hb⟩
  have HB := Lib.hid hb; clear hb
  go_wp2
  go_ret
  exact ⟨rfl, HB.out⟩

theorem name_walk (p : Option Addr) (n d : Nat) (ss : List ByteArray) (w : World) (hn : ss.length = n) (hm : n ≤ maxLen) (hp : StrsAt w p ss) (hz : Sizes ss) (hl : KwLaid w) :
    Calls Tryz.prog 94 #[.slice p n d] w fun e w' => e = .returned (.bool (ss.all nameB)) ∧ Below w.heap.size w w' := by
  have hc : Tells 122 nameB w := fun W s hb hs => name1_walk s W hs (hl.below hb)
  have HN := Lib.hid hn; have HP := Lib.hid hp; have HZ := Lib.hid hz; have HC := Lib.hid hc
  clear hn hp hz hc hl
  go_enter Tryz.func94, Tryz.ntmps94
  go_wp2_with (fail)
  refine (all_name_walk p n d ss nameB _ HN.out hm HP.out HZ.out HC.out).mono ?_
  rintro e w' ⟨rfl, hb⟩
  have HB := Lib.hid hb; clear hb
  go_wp2
  go_ret
  exact ⟨rfl, HB.out⟩
theorem exn_walk (p : Option Addr) (n d : Nat) (ss : List ByteArray) (w : World) (hn : ss.length = n) (hm : n ≤ maxLen) (hp : StrsAt w p ss) (hz : Sizes ss) :
    Calls Tryz.prog 32 #[.slice p n d] w fun e w' => e = .returned (.bool (ss.all exnB)) ∧ Below w.heap.size w w' := by
  have hc : Tells 62 exnB w := fun W s hb hs => exn1_walk s W hs
  have HN := Lib.hid hn; have HP := Lib.hid hp; have HZ := Lib.hid hz; have HC := Lib.hid hc
  clear hn hp hz hc
  go_enter Tryz.func32, Tryz.ntmps32
  go_wp2_with (fail)
  refine (all_exn_walk p n d ss exnB _ HN.out hm HP.out HZ.out HC.out).mono ?_
  rintro e w' ⟨rfl, hb⟩
  have HB := Lib.hid hb; clear hb
  go_wp2
  go_ret
  exact ⟨rfl, HB.out⟩
/-- Of one text. -/
theorem name_one (s : ByteArray) (t : Nat) (w : World) (hs : s.size ≤ maxLen) (hl : KwLaid w) :
    Calls Tryz.prog 94 #[.slice (some ⟨w.heap.size, 0, none⟩) 1 1] (w.alloc (.cells #[.string s] t)) fun e w' => e = .returned (.bool (nameB s)) ∧ Below w.heap.size w w' := by
  have hb0 : Below w.heap.size w (w.alloc (.cells #[.string s] t)) := (Below.refl _ _).alloc (Nat.le_refl _) _
  refine (name_walk _ 1 1 [s] _ rfl (by unfold maxLen; omega) (strs_one w t s) (fun x hx => by simp at hx; rw [hx]; exact hs) (hl.below hb0)).mono ?_
  rintro e w' ⟨rfl, hb⟩
  exact ⟨ret_bool (by simp), hb0.trans (hb.mono hb0.size)⟩
theorem exn_one (s : ByteArray) (t : Nat) (w : World) (hs : s.size ≤ maxLen) :
    Calls Tryz.prog 32 #[.slice (some ⟨w.heap.size, 0, none⟩) 1 1] (w.alloc (.cells #[.string s] t)) fun e w' => e = .returned (.bool (exnB s)) ∧ Below w.heap.size w w' := by
  have hb0 : Below w.heap.size w (w.alloc (.cells #[.string s] t)) := (Below.refl _ _).alloc (Nat.le_refl _) _
  refine (exn_walk _ 1 1 [s] _ rfl (by unfold maxLen; omega) (strs_one w t s) (fun x hx => by simp at hx; rw [hx]; exact hs)).mono ?_
  rintro e w' ⟨rfl, hb⟩
  exact ⟨ret_bool (by simp), hb0.trans (hb.mono hb0.size)⟩
/-- Likewise, the block told by its number. -/
theorem name_at (s : ByteArray) (t N : Nat) (w : World) (hN : N = w.heap.size) (hs : s.size ≤ maxLen) (hl : KwLaid w) :
    Calls Tryz.prog 94 #[.slice (some ⟨N, 0, none⟩) 1 1] (w.alloc (.cells #[.string s] t)) fun e w' => e = .returned (.bool (nameB s)) ∧ Below w.heap.size w w' := by
  subst hN
  exact name_one s t w hs hl
theorem exn_at (s : ByteArray) (t N : Nat) (w : World) (hN : N = w.heap.size) (hs : s.size ≤ maxLen) :
    Calls Tryz.prog 32 #[.slice (some ⟨N, 0, none⟩) 1 1] (w.alloc (.cells #[.string s] t)) fun e w' => e = .returned (.bool (exnB s)) ∧ Below w.heap.size w w' := by
  subst hN
  exact exn_one s t w hs
end Words
end Go.Proofs.YtadpjkehflokcaaGreatDoor
