/- Plain facts on keywords, names and numbers: of no program. -/
import Derived.Test.YtggabjmfdnfckaaGreatDoorCharsSpan2
import Derived.Lib.ItoaLen
import Derived.Lib.Strings
import Derived.Lib.ParseIntBCases
namespace Go.Proofs.YtggabjmfdnfckaaGreatDoor
namespace Words
open Chars (cls el isin run Bytes)

/-! ### Keywords -/
def kwTexts : List (List UInt8) :=
  [[108, 101, 116], [108, 101, 116, 114, 101, 99], [105, 110], [102, 110], [105, 102], [116, 104, 101, 110], [101, 108, 115, 101], [114, 97, 105, 115, 101],
   [116, 114, 121], [119, 105, 116, 104], [114, 101, 102], [102, 115, 116], [115, 110, 100], [101, 120, 110]]
def kwT (k : Nat) : ByteArray := ⟨(kwTexts.getD k []).toArray⟩

def kwAt (l : List UInt8) : List (List UInt8) → Nat → Nat
  | [], _ => 0
  | t :: r, k => if t = l then k + 1 else kwAt l r (k + 1)
/-- Which keyword a text is, from 1 on; 0. -/
def kwN (l : List UInt8) : Nat := kwAt l kwTexts 0

theorem kwAt_hit (l : List UInt8) : ∀ (ts : List (List UInt8)) (b k : Nat), k < ts.length → ts.getD k [] = l → (∀ j, j < k → ts.getD j [] ≠ l) → kwAt l ts b = b + k + 1
  | [], _, k, hk, _, _ => by simp at hk
  | t :: r, b, 0, _, h, _ => by
    have h' : t = l := h
    simp [kwAt, h']
  | t :: r, b, k + 1, hk, h, hn => by
    have h' : t ≠ l := hn 0 (by omega)
    have ih := kwAt_hit l r (b + 1) k (by simpa using hk) h (fun j hj => hn (j + 1) (by omega))
    simp only [kwAt, h', if_false, ih]
    omega
theorem kwAt_miss (l : List UInt8) : ∀ (ts : List (List UInt8)) (b : Nat), (∀ j, j < ts.length → ts.getD j [] ≠ l) → kwAt l ts b = 0
  | [], _, _ => rfl
  | t :: r, b, hn => by
    have h' : t ≠ l := hn 0 (by simp)
    have ih := kwAt_miss l r (b + 1) (fun j hj => hn (j + 1) (by simpa using hj))
    simp only [kwAt, h', if_false, ih]
theorem bytes_ext {s t : ByteArray} (h : s.data.toList = t.data.toList) : s = t := by
  cases s; cases t
  simp at h
  simp [h]
/-- Two texts, as the walk holds them against each other. -/
theorem str_yes {s t : ByteArray} (h : s = t) : (s.toList == t.toList) = true := by rw [h]; simp
theorem str_no {s t : ByteArray} (h : s ≠ t) : (s.toList == t.toList) = false := by
  rw [Lib.toList_data, Lib.toList_data, beq_eq_false_iff_ne]
  exact fun e => h (bytes_ext e)
theorem kwT_list (k : Nat) : (kwT k).data.toList = kwTexts.getD k [] := by simp [kwT]
theorem kwN_hit (s : ByteArray) (k : Nat) (hk : k < 14) (h : kwT k = s) (hn : ∀ j, j < k → kwT j ≠ s) : kwN s.data.toList = k + 1 := by
  unfold kwN
  rw [kwAt_hit s.data.toList kwTexts 0 k hk (by rw [← kwT_list, h]) (fun j hj e => hn j hj (bytes_ext (by rw [kwT_list, e])))]
  omega
theorem kwN_miss (s : ByteArray) (hn : ∀ j, j < 14 → kwT j ≠ s) : kwN s.data.toList = 0 := by
  unfold kwN
  exact kwAt_miss _ _ _ (fun j hj e => hn j hj (bytes_ext (by rw [kwT_list, e])))

/-! ### Names -/
/-- The bytes of a text as numbers. -/
def ints (l : List UInt8) : List Int := l.map fun c => (c.toNat : Int)
theorem ints_length (l : List UInt8) : (ints l).length = l.length := by simp [ints]
theorem ints_bytes (l : List UInt8) : Bytes (ints l) := by
  intro x hx
  simp only [ints, List.mem_map] at hx
  obtain ⟨c, _, rfl⟩ := hx
  have := c.toNat_lt
  omega
theorem el_ints (l : List UInt8) (k : Nat) (hk : k < l.length) : el (ints l) k = ((l[k]).toNat : Int) := by
  unfold el ints
  rw [List.getD_eq_getElem?_getD]
  simp [hk]

/-- One of the class f, then letters and digits: at most 16. -/
def wordB (f : Int) (xs : List Int) : Bool := decide (xs ≠ [] ∧ xs.length ≤ 16 ∧ cls (el xs 0) = f ∧ ∀ x ∈ xs, isin [3, 4, 2] (cls x) = true)
theorem wordB_true {f : Int} {xs : List Int} (h0 : xs ≠ []) (h1 : xs.length ≤ 16) (h2 : cls (el xs 0) = f) (h3 : ∀ x ∈ xs, isin [3, 4, 2] (cls x) = true) : wordB f xs = true := by
  unfold wordB; exact decide_eq_true ⟨h0, h1, h2, h3⟩
theorem wordB_nil (f : Int) : wordB f [] = false := by simp [wordB]
theorem wordB_long {f : Int} {xs : List Int} (h : ¬ xs.length ≤ 16) : wordB f xs = false := by
  unfold wordB; exact decide_eq_false fun ⟨_, h1, _, _⟩ => h h1
theorem wordB_first {f : Int} {xs : List Int} (h : cls (el xs 0) ≠ f) : wordB f xs = false := by
  unfold wordB; exact decide_eq_false fun ⟨_, _, h1, _⟩ => h h1
theorem wordB_some {f : Int} {xs : List Int} {k : Nat} (hk : k < xs.length) (h : isin [3, 4, 2] (cls (el xs k)) = false) : wordB f xs = false := by
  unfold wordB
  refine decide_eq_false fun ⟨_, _, _, h1⟩ => ?_
  have := h1 _ (Chars.el_mem hk)
  rw [h] at this
  cases this
/-- Is each of the classes ys? -/
def allB (ys xs : List Int) : Bool := decide (∀ x ∈ xs, isin ys (cls x) = true)
theorem run_iff (ys : List Int) : ∀ xs : List Int, run ys xs = xs.length ↔ ∀ x ∈ xs, isin ys (cls x) = true
  | [] => by simp [run]
  | x :: xs => by
    have ih := run_iff ys xs
    have hle := Chars.run_le ys xs
    unfold run at ih hle ⊢
    cases hx : isin ys (cls x)
    · simp [hx]
    · simp only [List.takeWhile_cons, hx, if_true, List.length_cons, List.mem_cons, forall_eq_or_imp, true_and]
      rw [← ih]
      omega
theorem run_allB (ys xs : List Int) : ((run ys xs : Int) == (xs.length : Int)) = allB ys xs := by
  rw [Bool.eq_iff_iff]
  unfold allB
  rw [decide_eq_true_iff, ← run_iff]
  simp
  omega
theorem wordB_of_allB (f : Int) (xs : List Int) (h0 : xs ≠ []) (h1 : xs.length ≤ 16) (h2 : cls (el xs 0) = f) : wordB f xs = allB [3, 4, 2] xs := by
  unfold wordB allB
  rw [decide_eq_decide]
  exact ⟨fun h => h.2.2.2, fun h => ⟨h0, h1, h2, h⟩⟩

def nameB (s : ByteArray) : Bool := wordB 3 (ints s.data.toList) && decide (kwN s.data.toList = 0)
def exnB (s : ByteArray) : Bool := wordB 4 (ints s.data.toList)

/-! ### Numbers -/
theorem digit_iff (c : Int) : cls c = 2 ↔ 48 ≤ c ∧ c ≤ 57 := by
  unfold cls
  constructor
  · intro h
    by_cases a : 48 ≤ c ∧ c ≤ 57
    · exact a
    exfalso
    rw [if_neg a] at h
    split at h
    · omega
    split at h
    · omega
    split at h
    · omega
    split at h <;> omega
  · intro h
    have nb : ¬ (c = 32 ∨ c = 9 ∨ c = 10) := by omega
    rw [if_neg nb, if_pos h]
/-- Is each a digit? -/
def digB (l : List UInt8) : Bool := decide (∀ c ∈ l, 48 ≤ c.toNat ∧ c.toNat ≤ 57)
theorem digB_allB (l : List UInt8) : allB [2] (ints l) = digB l := by
  unfold allB digB ints isin
  rw [decide_eq_decide]
  simp only [List.mem_map, forall_exists_index, and_imp, forall_apply_eq_imp_iff₂, decide_eq_true_eq, List.mem_singleton, digit_iff]
  exact ⟨fun h c hc => by have := h c hc; omega, fun h c hc => by have := h c hc; omega⟩
theorem digB_all {l : List UInt8} (h : digB l = true) : ∀ c ∈ l, 48 ≤ c.toNat ∧ c.toNat ≤ 57 := of_decide_eq_true h

/-- The number that digits spell, behind one that has been read. -/
@[irreducible] def decStep (n : Nat) (c : UInt8) : Nat := 10 * n + (c.toNat - 48)
theorem decStep_eq (n : Nat) (c : UInt8) : decStep n c = 10 * n + (c.toNat - 48) := by unfold decStep; with_reducible rfl
def decFrom (n : Nat) (l : List UInt8) : Nat := l.foldl decStep n
theorem decFrom_nil (n : Nat) : decFrom n [] = n := rfl
theorem decFrom_cons (n : Nat) (c : UInt8) (r : List UInt8) : decFrom n (c :: r) = decFrom (10 * n + (c.toNat - 48)) r := by
  unfold decFrom
  rw [List.foldl_cons, decStep_eq]
def decVal (l : List UInt8) : Nat := decFrom 0 l
theorem decVal_one (c : UInt8) : decVal [c] = c.toNat - 48 := by
  unfold decVal
  rw [decFrom_cons, decFrom_nil]
  omega
theorem decFrom_ge (l : List UInt8) : ∀ n : Nat, n ≤ decFrom n l := by
  induction l with
  | nil => intro n; exact Nat.le_refl n
  | cons c r ih =>
    intro n
    have := ih (10 * n + (c.toNat - 48))
    rw [decFrom_cons]
    omega
theorem decFrom_append (l r : List UInt8) (n : Nat) : decFrom n (l ++ r) = decFrom (decFrom n l) r := by
  unfold decFrom
  rw [List.foldl_append]
theorem decVal_snoc (l : List UInt8) (c : UInt8) : decVal (l ++ [c]) = 10 * decVal l + (c.toNat - 48) := by
  unfold decVal
  rw [decFrom_append, decFrom_cons, decFrom_nil]

def numB (l : List UInt8) : Bool := decide (l ≠ []) && digB l && !(decide (l.head? = some 48) && decide (1 < l.length)) && decide (decVal l ≤ 2147483647)
/-- The number; 0. -/
def numV (l : List UInt8) : Int := if numB l = true then (decVal l : Int) else 0

theorem numB_of (l : List UInt8) (h0 : l ≠ []) (h1 : digB l = true) (h2 : ¬ (l.head? = some 48 ∧ 1 < l.length)) (h3 : decVal l ≤ 2147483647) : numB l = true := by
  unfold numB
  have h2' : (decide (l.head? = some 48) && decide (1 < l.length)) = false := by
    rw [Bool.eq_false_iff]
    intro h
    rw [Bool.and_eq_true, decide_eq_true_iff, decide_eq_true_iff] at h
    exact h2 h
  rw [decide_eq_true h0, h1, h2', decide_eq_true h3]
  rfl
theorem numB_true {l : List UInt8} (h : numB l = true) : l ≠ [] ∧ digB l = true ∧ ¬ (l.head? = some 48 ∧ 1 < l.length) ∧ decVal l ≤ 2147483647 := by
  unfold numB at h
  simp only [Bool.and_eq_true, Bool.not_eq_true', Bool.and_eq_false_iff, decide_eq_true_iff, decide_eq_false_iff_not] at h
  obtain ⟨⟨⟨h0, h1⟩, h2⟩, h3⟩ := h
  exact ⟨h0, h1, fun h => by rcases h2 with h2 | h2; exact h2 h.1; exact h2 h.2, h3⟩

/-- What ParseUint's own reading says of digits alone. -/
theorem parse_dec (M : Nat) (hM : M < 18446744073709551616) : ∀ (l : List UInt8) (acc : Nat), (∀ c ∈ l, 48 ≤ c.toNat ∧ c.toNat ≤ 57) → acc ≤ M →
    (Lib.parseUintM M acc l = .ok (decFrom acc l) ∧ decFrom acc l ≤ M) ∨ (Lib.parseUintM M acc l = .range ∧ M < decFrom acc l)
  | [], acc, _, h => .inl ⟨rfl, h⟩
  | c :: r, acc, hd, h => by
    have hc := hd c (by simp)
    have hr : ∀ x ∈ r, 48 ≤ x.toNat ∧ x.toNat ≤ 57 := fun x hx => hd x (by simp [hx])
    have hge := decFrom_ge r (10 * acc + (c.toNat - 48))
    rw [decFrom_cons]
    simp only [Lib.parseUintM, hc, and_self, if_true]
    by_cases h1 : 1844674407370955162 ≤ acc
    · rw [if_pos h1]
      exact .inr ⟨rfl, by omega⟩
    · rw [if_neg h1, Nat.mul_comm acc 10]
      by_cases h2 : M < 10 * acc + (c.toNat - 48)
      · rw [if_pos h2]
        exact .inr ⟨rfl, by omega⟩
      · rw [if_neg h2]
        exact parse_dec M hM r _ hr (by omega)
/-- What ParseInt says of digits alone. -/
theorem parse_int (l : List UInt8) (h0 : l ≠ []) (hd : digB l = true) :
    (Lib.parseIntB 64 l = .ok (decVal l : Int) ∧ decVal l < 9223372036854775808) ∨ (Lib.parseIntB 64 l = .range ∧ 9223372036854775808 ≤ decVal l) := by
  have hd' := digB_all hd
  cases l with
  | nil => exact absurd rfl h0
  | cons c r =>
    have hc := hd' c (by simp)
    rw [Lib.parseIntB_plain 64 c r (by omega) (by omega)]
    have hu : Lib.parseUintB 64 (c :: r) = Lib.parseUintM 18446744073709551615 0 (c :: r) := by
      unfold Lib.parseUintB
      rw [if_neg (by simp)]
    rw [hu]
    have h63 : (2 : Nat) ^ (64 - 1) = 9223372036854775808 := by decide
    rcases parse_dec 18446744073709551615 (by decide) (c :: r) 0 hd' (Nat.zero_le _) with ⟨h, hle⟩ | ⟨h, hlt⟩
    · rw [h, h63]
      simp only [Lib.signlessC]
      show (_ ∧ decFrom 0 (c :: r) < _) ∨ (_ ∧ _ ≤ decFrom 0 (c :: r))
      by_cases h2 : 9223372036854775808 ≤ decFrom 0 (c :: r)
      · rw [if_pos h2]; exact .inr ⟨rfl, h2⟩
      · rw [if_neg h2]; exact .inl ⟨rfl, by omega⟩
    · rw [h]
      show (_ ∧ decFrom 0 (c :: r) < _) ∨ (_ ∧ _ ≤ decFrom 0 (c :: r))
      exact .inr ⟨rfl, by omega⟩

/-! ### A number's digits -/
theorem head_append (l r : List UInt8) (h : l ≠ []) : (l ++ r).head? = l.head? := by
  cases l with
  | nil => exact absurd rfl h
  | cons c l => rfl
theorem digit_byte (k : Nat) (h : k < 10) : (UInt8.ofNat (48 + k)).toNat = 48 + k := by
  simp; omega
theorem dec_digits (u : Nat) : digB (Lib.decDigits u) = true ∧ decVal (Lib.decDigits u) = u ∧ Lib.decDigits u ≠ [] ∧ ((Lib.decDigits u).head? = some 48 → u = 0) := by
  induction u using Nat.strongRecOn with
  | _ u ih =>
    by_cases h : u < 10
    · rw [Lib.decDigits_one h]
      have hb := digit_byte u h
      refine ⟨?_, ?_, by simp, ?_⟩
      · unfold digB
        refine decide_eq_true fun c hc => ?_
        simp only [List.mem_singleton] at hc
        subst hc
        omega
      · rw [decVal_one]
        omega
      · intro hh
        simp only [List.head?_cons, Option.some.injEq] at hh
        have := congrArg UInt8.toNat hh
        rw [hb] at this
        have e48 : (48 : UInt8).toNat = 48 := rfl
        omega
    · obtain ⟨h1, h2, h3, h4⟩ := ih (u / 10) (by omega)
      rw [Lib.decDigits, dif_neg h]
      have hb := digit_byte (u % 10) (by omega)
      refine ⟨?_, ?_, by simp, ?_⟩
      · unfold digB at h1 ⊢
        have h1' := of_decide_eq_true h1
        refine decide_eq_true fun c hc => ?_
        rw [List.mem_append] at hc
        rcases hc with hc | hc
        · exact h1' c hc
        · simp only [List.mem_singleton] at hc
          subst hc
          omega
      · rw [decVal_snoc, h2]
        omega
      · intro hh
        rw [head_append _ _ h3] at hh
        have := h4 hh
        omega
/-- Digits without noughts ahead are those of their number. -/
theorem digits_snoc (l : List UInt8) (c : UInt8) (hc : 48 ≤ c.toNat ∧ c.toNat ≤ 57) (hv : 0 < decVal l) (h : Lib.decDigits (decVal l) = l) : Lib.decDigits (decVal (l ++ [c])) = l ++ [c] := by
  rw [decVal_snoc, Lib.decDigits, dif_neg (by omega), show (10 * decVal l + (c.toNat - 48)) / 10 = decVal l from by omega, h, show 48 + (10 * decVal l + (c.toNat - 48)) % 10 = c.toNat from by omega]
  simp
theorem digits_back : ∀ (n : Nat) (l : List UInt8), l.length = n → l ≠ [] → digB l = true → ¬ (l.head? = some 48 ∧ 1 < l.length) → Lib.decDigits (decVal l) = l ∧ (l.head? ≠ some 48 → 0 < decVal l)
  | 0, l, hn, h0, _, _ => absurd (List.length_eq_zero_iff.1 hn) h0
  | 1, l, hn, _, hd, _ => by
    match l, hn with
    | [c], _ =>
      have hc := digB_all hd c (by simp)
      have e := decVal_one c
      rw [e, Lib.decDigits_one (by omega), show 48 + (c.toNat - 48) = c.toNat from by omega]
      refine ⟨by simp, fun h => ?_⟩
      have : c ≠ 48 := fun e => h (by simp [e])
      have : c.toNat ≠ 48 := fun e => this (UInt8.toNat_inj.1 e)
      omega
  | n + 2, l, hn, h0, hd, hh => by
    have hl := List.dropLast_concat_getLast h0
    have hlen : l.dropLast.length = n + 1 := by rw [List.length_dropLast]; omega
    have hne : l.dropLast ≠ [] := fun e => by rw [e] at hlen; simp at hlen
    have hd' := digB_all hd
    have hdl : digB l.dropLast = true := decide_eq_true fun c hc => hd' c (List.dropLast_subset l hc)
    have hhead : l.dropLast.head? = l.head? := by
      conv => rhs; rw [← hl, head_append _ _ hne]
    have h48 : l.head? ≠ some 48 := fun e => hh ⟨e, by omega⟩
    obtain ⟨h1, h2⟩ := digits_back (n + 1) l.dropLast hlen hne hdl (fun h => h48 (by rw [← hhead]; exact h.1))
    have hv := h2 (by rw [hhead]; exact h48)
    have hc := hd' (l.getLast h0) (List.getLast_mem h0)
    have := digits_snoc l.dropLast (l.getLast h0) hc hv h1
    rw [hl] at this
    refine ⟨this, fun _ => ?_⟩
    have e : decVal l = 10 * decVal l.dropLast + ((l.getLast h0).toNat - 48) := by
      conv => lhs; rw [← hl]
      exact decVal_snoc _ _
    omega
/-- A text of digits is a number's just if its number's digits are it. -/
theorem numB_iff (l : List UInt8) (h0 : l ≠ []) (hd : digB l = true) (hv : decVal l ≤ 2147483647) : (Lib.decDigits (decVal l) = l) ↔ numB l = true := by
  constructor
  · intro h
    refine numB_of l h0 hd (fun ⟨h1, h2⟩ => ?_) hv
    have h4 := (dec_digits (decVal l)).2.2.2
    rw [h] at h4
    have hz := h4 h1
    rw [hz] at h
    rw [← h] at h2
    rw [Lib.decDigits_one (by omega)] at h2
    simp at h2
  · intro h
    have := numB_true h
    exact (digits_back l.length l rfl h0 hd this.2.2.1).1
/-- Of a number's own digits. -/
theorem num_itoa (n : Int) : numB (Lib.itoa n) = decide (0 ≤ n ∧ n ≤ 2147483647) ∧ numV (Lib.itoa n) = if 0 ≤ n ∧ n ≤ 2147483647 then n else 0 := by
  by_cases hn : n < 0
  · have e : numB (Lib.itoa n) = false := by
      rw [Bool.eq_false_iff]
      intro h
      have hd := digB_all (numB_true h).2.1
      unfold Lib.itoa at hd
      rw [if_pos hn] at hd
      have := hd 45 (by simp)
      have e45 : (45 : UInt8).toNat = 45 := rfl
      omega
    refine ⟨by rw [e]; exact (decide_eq_false (by omega)).symm, ?_⟩
    unfold numV
    rw [e, if_neg (by simp), if_neg (by omega)]
  · obtain ⟨u, rfl⟩ := Int.eq_ofNat_of_zero_le (by omega : 0 ≤ n)
    rw [Lib.itoa_nonneg]
    obtain ⟨h1, h2, h3, h4⟩ := dec_digits u
    by_cases hb : u ≤ 2147483647
    · have e : numB (Lib.decDigits u) = true := by
        rw [← numB_iff _ h3 h1 (by omega), h2]
      refine ⟨by rw [e]; exact (decide_eq_true (by omega)).symm, ?_⟩
      unfold numV
      rw [if_pos e, if_pos (by omega), h2]
    · have e : numB (Lib.decDigits u) = false := by
        rw [Bool.eq_false_iff]
        intro h
        have := (numB_true h).2.2.2
        omega
      refine ⟨by rw [e]; exact (decide_eq_false (by omega)).symm, ?_⟩
      unfold numV
      rw [e, if_neg (by simp), if_neg (by omega)]
end Words
end Go.Proofs.YtggabjmfdnfckaaGreatDoor
