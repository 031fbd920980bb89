/- Effects: mathematics: atoms, their order, the effect of atoms. (No program in it but for what a text of an exception is.) -/
import Derived.Test.YtggabjmfdnfckaaGreatDoorWordsMath
import Derived.Sort.Statements
import Derived.Lib.Bytealg
namespace Go.Proofs.YtggabjmfdnfckaaGreatDoor
set_option linter.unusedVariables false
namespace Effect

/-- An atom: its kind, its region, its exception. -/
structure At where
  k : Int
  r : Int
  x : ByteArray
deriving DecidableEq
instance : Inhabited At := ⟨⟨0, 0, ByteArray.empty⟩⟩
/-- Which of two texts is ahead. -/
def lessS (a b : ByteArray) : Bool := Op.bytesLess a.toList b.toList
theorem less_irrefl : ∀ l : List UInt8, Op.bytesLess l l = false
  | [] => rfl
  | a :: l => by
    show (decide (a < a) || (a == a && Op.bytesLess l l)) = false
    rw [less_irrefl l]; simp
theorem less_trans : ∀ l m k : List UInt8, Op.bytesLess l m = true → Op.bytesLess m k = true → Op.bytesLess l k = true
  | _, [], _, h, _ => by cases ‹List UInt8› <;> simp [Op.bytesLess] at h
  | _, _ :: _, [], _, h => by simp [Op.bytesLess] at h
  | [], _ :: _, _ :: _, _, _ => rfl
  | a :: l, b :: m, c :: k, h1, h2 => by
    simp only [Op.bytesLess, Bool.or_eq_true, Bool.and_eq_true, decide_eq_true_eq, beq_iff_eq] at h1 h2 ⊢
    rcases h1 with h1 | ⟨rfl, h1⟩
    · rcases h2 with h2 | ⟨rfl, h2⟩
      · exact .inl (UInt8.lt_trans h1 h2)
      · exact .inl h1
    · rcases h2 with h2 | ⟨rfl, h2⟩
      · exact .inl h2
      · exact .inr ⟨rfl, less_trans l m k h1 h2⟩
theorem less_total : ∀ l m : List UInt8, Op.bytesLess l m = false → Op.bytesLess m l = false → l = m
  | [], [], _, _ => rfl
  | [], _ :: _, h, _ => by simp [Op.bytesLess] at h
  | _ :: _, [], _, h => by simp [Op.bytesLess] at h
  | a :: l, b :: m, h1, h2 => by
    simp only [Op.bytesLess, Bool.or_eq_false_iff, Bool.and_eq_false_iff, decide_eq_false_iff_not] at h1 h2
    have e : a = b := UInt8.le_antisymm (UInt8.not_lt.1 h2.1) (UInt8.not_lt.1 h1.1)
    subst e
    rw [less_total l m (h1.2.resolve_left (by simp)) (h2.2.resolve_left (by simp))]
theorem toList_inj {a b : ByteArray} (h : a.toList = b.toList) : a = b := by
  rw [Lib.toList_data, Lib.toList_data] at h
  cases a; cases b; simpa using h
theorem lessS_irrefl (a : ByteArray) : lessS a a = false := less_irrefl _
theorem lessS_trans {a b c : ByteArray} (h1 : lessS a b = true) (h2 : lessS b c = true) : lessS a c = true := less_trans _ _ _ h1 h2
theorem lessS_total {a b : ByteArray} (h1 : lessS a b = false) (h2 : lessS b a = false) : a = b := toList_inj (less_total _ _ h1 h2)
/-- Which of two atoms is ahead. -/
def lessA (a b : At) : Bool := if a.k = b.k then (if a.r = b.r then lessS a.x b.x else decide (a.r < b.r)) else decide (a.k < b.k)
theorem lessA_irrefl (a : At) : lessA a a = false := by unfold lessA; rw [if_pos rfl, if_pos rfl]; exact lessS_irrefl _
theorem lessA_cases {a b : At} : lessA a b = true ↔ a.k < b.k ∨ (a.k = b.k ∧ (a.r < b.r ∨ (a.r = b.r ∧ lessS a.x b.x = true))) := by
  unfold lessA
  split
  · rename_i h
    split
    · rename_i h2
      exact ⟨fun h3 => .inr ⟨h, .inr ⟨h2, h3⟩⟩, fun h3 => by rcases h3 with h3 | ⟨_, h3 | ⟨_, h3⟩⟩ <;> first | omega | exact h3⟩
    · rename_i h2
      rw [decide_eq_true_eq]
      exact ⟨fun h3 => .inr ⟨h, .inl h3⟩, fun h3 => by rcases h3 with h3 | ⟨_, h3 | ⟨h4, _⟩⟩ <;> first | omega | exact absurd h4 h2⟩
  · rename_i h
    rw [decide_eq_true_eq]
    exact ⟨.inl, fun h3 => by rcases h3 with h3 | ⟨h4, _⟩ <;> first | omega | exact absurd h4 h⟩
theorem lessA_trans {a b c : At} (h1 : lessA a b = true) (h2 : lessA b c = true) : lessA a c = true := by
  rw [lessA_cases] at *
  rcases h1 with h1 | ⟨h1, h1' | ⟨h1', h1''⟩⟩ <;> rcases h2 with h2 | ⟨h2, h2' | ⟨h2', h2''⟩⟩
  all_goals first
    | exact .inl (by omega)
    | exact .inr ⟨by omega, .inl (by omega)⟩
    | exact .inr ⟨by omega, .inr ⟨by omega, lessS_trans h1'' h2''⟩⟩
theorem lessA_total {a b : At} (h1 : lessA a b = false) (h2 : lessA b a = false) : a = b := by
  have n1 : ¬ lessA a b = true := by rw [h1]; simp
  have n2 : ¬ lessA b a = true := by rw [h2]; simp
  rw [lessA_cases] at n1 n2
  have ek : a.k = b.k := by omega
  have er : a.r = b.r := by
    rcases Int.lt_trichotomy a.r b.r with h | h | h
    · exact absurd (.inr ⟨ek, .inl h⟩) n1
    · exact h
    · exact absurd (.inr ⟨ek.symm, .inl h⟩) n2
  have ex : a.x = b.x := by
    refine lessS_total ?_ ?_
    · cases h : lessS a.x b.x with
      | false => rfl
      | true => exact absurd (.inr ⟨ek, .inr ⟨er, h⟩⟩) n1
    · cases h : lessS b.x a.x with
      | false => rfl
      | true => exact absurd (.inr ⟨ek.symm, .inr ⟨er.symm, h⟩⟩) n2
  cases a; cases b
  simp only [At.mk.injEq]
  exact ⟨ek, er, ex⟩
theorem lessA_asym {a b : At} (h : lessA a b = true) : lessA b a = false := by
  cases h2 : lessA b a with
  | false => rfl
  | true => have := lessA_trans h h2; rw [lessA_irrefl] at this; cases this
/-- Is it an atom? -/
def atomB (a : At) : Bool := if a.k = 3 then decide (a.r = 0) && Words.exnB a.x else (decide (a.k = 1) || decide (a.k = 2)) && decide (0 ≤ a.r) && decide (a.x = ByteArray.empty)
/-- Rising: each ahead of all behind it. -/
def Up (l : List At) : Prop := l.Pairwise fun a b => lessA a b = true
theorem Up.nodup {l : List At} (h : Up l) : l.Nodup := h.imp fun h e => by subst e; rw [lessA_irrefl] at h; cases h
/-- Two rising rows with the same atoms are one. -/
theorem up_uniq : ∀ {l m : List At}, Up l → Up m → (∀ a, a ∈ l ↔ a ∈ m) → l = m
  | [], [], _, _, _ => rfl
  | [], b :: m, _, _, h => by have := (h b).2 (by simp); cases this
  | a :: l, [], _, _, h => by have := (h a).1 (by simp); cases this
  | a :: l, b :: m, hl, hm, h => by
    have hl' := List.pairwise_cons.1 hl
    have hm' := List.pairwise_cons.1 hm
    have e : a = b := by
      rcases List.mem_cons.1 ((h a).1 (by simp)) with e | ha
      · exact e
      · rcases List.mem_cons.1 ((h b).2 (by simp)) with e | hb
        · exact e.symm
        · have h1 := hm'.1 a ha
          have h2 := hl'.1 b hb
          have := lessA_trans h1 h2
          rw [lessA_irrefl] at this; cases this
    subst e
    congr 1
    refine up_uniq hl'.2 hm'.2 fun x => ⟨fun hx => ?_, fun hx => ?_⟩
    · rcases List.mem_cons.1 ((h x).1 (by simp [hx])) with e | h3
      · subst e; have := hl'.1 x hx; rw [lessA_irrefl] at this; cases this
      · exact h3
    · rcases List.mem_cons.1 ((h x).2 (by simp [hx])) with e | h3
      · subst e; have := hm'.1 x hx; rw [lessA_irrefl] at this; cases this
      · exact h3
/-- The document's way: an atom is put to its place. -/
def insA (a : At) : List At → List At
  | [] => [a]
  | x :: xs => if lessA a x = true then a :: x :: xs else x :: insA a xs
def putA (e : List At) (a : At) : List At := if atomB a = true ∧ a ∉ e then insA a e else e
def ofA (l : List At) : List At := l.foldl putA []
theorem mem_ins (a b : At) : ∀ l, b ∈ insA a l ↔ b = a ∨ b ∈ l
  | [] => by simp [insA]
  | x :: xs => by
    unfold insA
    split
    · simp
    · rw [List.mem_cons, mem_ins a b xs, List.mem_cons]
      exact ⟨fun h => by rcases h with h | h | h <;> simp [h], fun h => by rcases h with h | h | h <;> simp [h]⟩
theorem up_ins {a : At} : ∀ {l : List At}, Up l → a ∉ l → Up (insA a l)
  | [], _, _ => List.pairwise_singleton _ _
  | x :: xs, h, hn => by
    have h' := List.pairwise_cons.1 h
    unfold insA
    split
    · rename_i hl
      refine List.pairwise_cons.2 ⟨fun b hb => ?_, h⟩
      rcases List.mem_cons.1 hb with rfl | hb
      · exact hl
      · exact lessA_trans hl (h'.1 b hb)
    · rename_i hl
      refine List.pairwise_cons.2 ⟨fun b hb => ?_, up_ins h'.2 fun hx => hn (by simp [hx])⟩
      rcases (mem_ins a b xs).1 hb with rfl | hb
      · cases h3 : lessA x b with
        | true => rfl
        | false => exact absurd (by rw [lessA_total h3 (by simpa using hl)]; simp) hn
      · exact h'.1 b hb
theorem up_put {e : List At} (h : Up e) (a : At) : Up (putA e a) := by
  unfold putA
  split
  · rename_i hp; exact up_ins h hp.2
  · exact h
theorem mem_put (e : List At) (a b : At) : b ∈ putA e a ↔ b ∈ e ∨ (b = a ∧ atomB a = true) := by
  unfold putA
  split
  · rename_i hp
    rw [mem_ins]
    exact ⟨fun h => h.elim (fun h => .inr ⟨h, hp.1⟩) .inl, fun h => h.elim .inr fun h => .inl h.1⟩
  · rename_i hp
    refine ⟨.inl, fun h => h.elim id fun ⟨h1, h2⟩ => ?_⟩
    subst h1
    exact Classical.not_not.1 fun hn => hp ⟨h2, hn⟩
theorem up_fold : ∀ (l e : List At), Up e → Up (l.foldl putA e) ∧ ∀ b, b ∈ l.foldl putA e ↔ b ∈ e ∨ (b ∈ l ∧ atomB b = true)
  | [], e, h => ⟨h, fun b => by simp⟩
  | a :: l, e, h => by
    obtain ⟨h1, h2⟩ := up_fold l (putA e a) (up_put h a)
    refine ⟨h1, fun b => ?_⟩
    show b ∈ l.foldl putA (putA e a) ↔ _
    rw [h2, mem_put, List.mem_cons]
    constructor
    · rintro ((h | ⟨rfl, h⟩) | ⟨h, h'⟩)
      · exact .inl h
      · exact .inr ⟨.inl rfl, h⟩
      · exact .inr ⟨.inr h, h'⟩
    · rintro (h | ⟨rfl | h, h'⟩)
      · exact .inl (.inl h)
      · exact .inl (.inr ⟨rfl, h'⟩)
      · exact .inr ⟨h, h'⟩
theorem up_of (l : List At) : Up (ofA l) := (up_fold l [] List.Pairwise.nil).1
theorem mem_of (l : List At) (b : At) : b ∈ ofA l ↔ b ∈ l ∧ atomB b = true := by
  have := (up_fold l [] List.Pairwise.nil).2 b
  unfold ofA
  rw [this]
  simp
theorem of_uniq {l e : List At} (hu : Up e) (hm : ∀ b, b ∈ e ↔ b ∈ l ∧ atomB b = true) : e = ofA l := up_uniq hu (up_of l) fun b => (hm b).trans (mem_of l b).symm
theorem of_of (l : List At) : ofA (ofA l) = ofA l := (of_uniq (up_of l) fun b => by rw [mem_of]; exact ⟨fun h => ⟨h, h.2⟩, fun h => h.1⟩).symm
theorem of_congr {l m : List At} (h : ∀ b, atomB b = true → (b ∈ l ↔ b ∈ m)) : ofA l = ofA m := of_uniq (up_of l) fun b => by rw [mem_of]; exact ⟨fun ⟨h1, h2⟩ => ⟨(h b h2).1 h1, h2⟩, fun ⟨h1, h2⟩ => ⟨(h b h2).2 h1, h2⟩⟩
/-- The program's way: sorted, and made compact. -/
def compA : List At → List At
  | [] => []
  | [x] => [x]
  | x :: y :: r => if x = y then compA (y :: r) else x :: compA (y :: r)
theorem mem_comp : ∀ (l : List At) (b : At), b ∈ compA l ↔ b ∈ l
  | [], b => by simp [compA]
  | [x], b => by simp [compA]
  | x :: y :: r, b => by
    unfold compA
    split
    · rename_i e; subst e; rw [mem_comp (x :: r) b]; simp
    · rw [List.mem_cons, mem_comp (y :: r) b]; simp
theorem up_comp : ∀ {l : List At}, l.Pairwise (fun a b => lessA b a = false) → Up (compA l)
  | [], _ => List.Pairwise.nil
  | [x], _ => List.pairwise_singleton _ _
  | x :: y :: r, h => by
    have h' := List.pairwise_cons.1 h
    unfold compA
    split
    · exact up_comp h'.2
    · rename_i hne
      refine List.pairwise_cons.2 ⟨fun b hb => ?_, up_comp h'.2⟩
      rw [mem_comp] at hb
      have hxy : lessA x y = true := by
        cases h3 : lessA x y with
        | true => rfl
        | false => exact absurd (lessA_total h3 (h'.1 y (by simp))) hne
      rcases List.mem_cons.1 hb with rfl | hb
      · exact hxy
      · have h4 := (List.pairwise_cons.1 h'.2).1 b hb
        cases h5 : lessA y b with
        | true => exact lessA_trans hxy h5
        | false => rw [← lessA_total h5 h4]; exact hxy
theorem comp_of {l s : List At} (hs : s.Pairwise fun a b => lessA b a = false) (hp : ∀ b, b ∈ s ↔ b ∈ l ∧ atomB b = true) : compA s = ofA l := of_uniq (up_comp hs) fun b => by rw [mem_comp]; exact hp b
/-- What compare tells. -/
def cmpA (a b : At) : Int := if a.k = b.k then (if a.r = b.r then (if lessS a.x b.x = true then -1 else if lessS b.x a.x = true then 1 else 0) else if a.r < b.r then -1 else 1) else if a.k < b.k then -1 else 1
theorem cmpA_neg (a b : At) : decide (cmpA a b < 0) = lessA a b := by
  unfold cmpA lessA
  split
  · split
    · cases h : lessS a.x b.x <;> simp
      split <;> decide
    · split <;> simp [*]
  · split <;> simp [*]
theorem swoA : Sort.SWO lessA := ⟨lessA_irrefl, fun x y z => lessA_trans, fun x y z h1 h2 => by
  cases h : lessA x z with
  | false => rfl
  | true =>
    cases h3 : lessA y x with
    | true => have := lessA_trans h3 h; rw [h2] at this; cases this
    | false => rw [lessA_total h1 h3] at h; rw [h] at h2; cases h2⟩
end Effect
end Go.Proofs.YtggabjmfdnfckaaGreatDoor
