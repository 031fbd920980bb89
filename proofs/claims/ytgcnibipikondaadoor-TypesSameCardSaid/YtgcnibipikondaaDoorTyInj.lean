/- Two closed types that have one text are the same: mathematics. -/
import Derived.Test.YtgcnibipikondaaDoorTyM
namespace Go.Proofs.YtgcnibipikondaaDoor
open Go.RowKit
set_option linter.unusedVariables false
namespace Types

/-! ### From the text to its words -/
def NoBl (x : List UInt8) : Prop := (32 : UInt8) ∉ x
theorem cut_first : ∀ {x y u v : List UInt8}, NoBl x → NoBl y → (u = [] ∨ ∃ u', u = 32 :: u') → (v = [] ∨ ∃ v', v = 32 :: v') → x ++ u = y ++ v → x = y ∧ u = v
  | [], [], u, v, _, _, _, _, h => ⟨rfl, h⟩
  | [], b :: y, u, v, _, hy, hu, _, h => by
    rcases hu with rfl | ⟨u', rfl⟩
    · simp at h
    · simp only [List.nil_append, List.cons_append, List.cons.injEq] at h
      exact absurd (by rw [← h.1]; exact List.mem_cons_self) hy
  | a :: x, [], u, v, hx, _, _, hv, h => by
    rcases hv with rfl | ⟨v', rfl⟩
    · simp at h
    · simp only [List.nil_append, List.cons_append, List.cons.injEq] at h
      exact absurd (by rw [h.1]; exact List.mem_cons_self) hx
  | a :: x, b :: y, u, v, hx, hy, hu, hv, h => by
    simp only [List.cons_append, List.cons.injEq] at h
    obtain ⟨h1, h2⟩ := cut_first (fun e => hx (List.mem_cons_of_mem _ e)) (fun e => hy (List.mem_cons_of_mem _ e)) hu hv h.2
    exact ⟨by rw [h.1, h1], h2⟩
theorem tail_shape : ∀ r : List (List UInt8), Lib.joinTail [32] r = [] ∧ r = [] ∨ ∃ x q, r = x :: q ∧ Lib.joinTail [32] r = 32 :: (x ++ Lib.joinTail [32] q)
  | [] => .inl ⟨by simp [Lib.joinTail], rfl⟩
  | x :: q => .inr ⟨x, q, rfl, by simp [Lib.joinTail]⟩
theorem tail_inj : ∀ (r q : List (List UInt8)), (∀ x ∈ r, NoBl x) → (∀ x ∈ q, NoBl x) → Lib.joinTail [32] r = Lib.joinTail [32] q → r = q
  | [], q, _, _, h => by
    rcases tail_shape q with ⟨_, rfl⟩ | ⟨x, q', rfl, e⟩
    · rfl
    · rw [e] at h; simp [Lib.joinTail] at h
  | x :: r, q, hr, hq, h => by
    rcases tail_shape q with ⟨_, rfl⟩ | ⟨y, q', rfl, e⟩
    · simp [Lib.joinTail] at h
    · have e1 : Lib.joinTail [32] (x :: r) = 32 :: (x ++ Lib.joinTail [32] r) := by simp [Lib.joinTail]
      rw [e, e1] at h
      simp only [List.cons.injEq, true_and] at h
      have sh : ∀ r : List (List UInt8), Lib.joinTail [32] r = [] ∨ ∃ u', Lib.joinTail [32] r = 32 :: u' := fun r => by
        rcases tail_shape r with ⟨h, _⟩ | ⟨_, _, _, h⟩
        · exact .inl h
        · exact .inr ⟨_, h⟩
      obtain ⟨h1, h2⟩ := cut_first (hr x List.mem_cons_self) (hq y List.mem_cons_self) (sh r) (sh q') h
      rw [h1, tail_inj r q' (fun z hz => hr z (List.mem_cons_of_mem _ hz)) (fun z hz => hq z (List.mem_cons_of_mem _ hz)) h2]
theorem jb_inj {a b : List ByteArray} (ha : ∀ x ∈ a, NoBl (bl x)) (hb : ∀ x ∈ b, NoBl (bl x)) (na : a ≠ []) (nb : b ≠ []) (h : jb a = jb b) : a = b := by
  have h1 : bl (jb a) = bl (jb b) := by rw [h]
  rw [bl_jb, bl_jb] at h1
  have key : a.map bl = b.map bl := by
    cases a with
    | nil => exact absurd rfl na
    | cons x r =>
      cases b with
      | nil => exact absurd rfl nb
      | cons y q =>
        rw [List.map_cons, List.map_cons, Lib.join_cons, Lib.join_cons] at h1
        have sh : ∀ r : List (List UInt8), Lib.joinTail [32] r = [] ∨ ∃ u', Lib.joinTail [32] r = 32 :: u' := fun r => by
          rcases tail_shape r with ⟨h, _⟩ | ⟨_, _, _, h⟩
          · exact .inl h
          · exact .inr ⟨_, h⟩
        obtain ⟨h2, h3⟩ := cut_first (ha x List.mem_cons_self) (hb y List.mem_cons_self) (sh _) (sh _) h1
        have h4 := tail_inj (r.map bl) (q.map bl) (fun z hz => by obtain ⟨u, hu, rfl⟩ := List.mem_map.1 hz; exact ha u (List.mem_cons_of_mem _ hu)) (fun z hz => by obtain ⟨u, hu, rfl⟩ := List.mem_map.1 hz; exact hb u (List.mem_cons_of_mem _ hu)) h3
        rw [List.map_cons, List.map_cons, h2, h4]
  have inj : ∀ (a b : List ByteArray), a.map bl = b.map bl → a = b := by
    intro a
    induction a with
    | nil => intro b h; cases b with
      | nil => rfl
      | cons y q => simp at h
    | cons x r ih =>
      intro b h
      cases b with
      | nil => simp at h
      | cons y q =>
        simp only [List.map_cons, List.cons.injEq] at h
        rw [bl_inj h.1, ih q h.2]
  exact inj a b key

/-! ### From the words to the type -/
/-- What a closed type is. -/
inductive Shape : Ty → Prop where
  | int : Shape (.node ⟨1, 0⟩ [])
  | pair (a b : Ty) : Shape a → Shape b → Shape (.node ⟨2, 0⟩ [a, b])
  | ref (a : Ty) : Shape a → Shape (.node ⟨3, 0⟩ [a])
  | fn (a b : Ty) : Shape a → Shape b → Shape (.node ⟨4, 0⟩ [a, b])
theorem shape_of : ∀ m : Nat, ∀ t, wt t ≤ m → mayT t = true → hasT 5 t = false → Shape t := by
  intro m
  induction m with
  | zero => intro t h; have := wt_pos t; omega
  | succ m ih =>
    intro t h hm h5
    obtain ⟨hk, hv0, hv1, hks⟩ := may_node hm
    rw [hasT_eq] at h5
    have hk5 : t.h.k ≠ 5 := by intro e; rw [e] at h5; simp at h5
    have hkk : hasK 5 t.ks = false := by
      cases hx : hasK 5 t.ks
      · rfl
      · rw [hx] at h5; simp at h5
    have hw := wt_ks t
    obtain ⟨⟨k, v⟩, l⟩ := t
    simp only [Ty.h, Ty.ks] at *
    have hv : v = 0 := by omega
    subst hv
    rcases hk with ⟨hk, hl⟩ | ⟨rfl, hl⟩ | ⟨hk, hl⟩
    · obtain rfl : k = 1 := by omega
      obtain rfl : l = [] := List.length_eq_zero_iff.1 hl
      exact .int
    · match l, hl with
      | [a], _ =>
        rw [hasK_cons, hasK_nil, Bool.or_false] at hkk
        rw [wts_cons, wts_nil] at hw
        have ha : mayT a = true := by
          change allT nodeB a = true
          rw [← allK_one]; exact hks
        exact .ref a (ih a (by omega) ha hkk)
    · match l, hl with
      | [a, b], _ =>
        rw [hasK_cons, hasK_cons, hasK_nil, Bool.or_false, Bool.or_eq_false_iff] at hkk
        rw [wts_cons, wts_cons, wts_nil] at hw
        have hks' : (allT nodeB a && (allT nodeB b && true)) = true := by
          have := hks
          rw [mayK, allK_cons, allK_cons, allK_nil] at this
          exact this
        simp only [Bool.and_eq_true] at hks'
        have sa := ih a (by omega) hks'.1 hkk.1
        have sb := ih b (by omega) hks'.2.1 hkk.2
        rcases hk with rfl | rfl
        · exact .pair a b sa sb
        · exact .fn a b sa sb
def tw (t : Ty) : List ByteArray := tightW (t.h.k, wordsT t)
theorem w_int : wordsT (.node ⟨1, 0⟩ []) = [wInt] := by rw [wordsT_eq]; rfl
theorem w_pair (a b : Ty) : wordsT (.node ⟨2, 0⟩ [a, b]) = wOpen :: (wordsT a ++ (wStar :: (wordsT b ++ [wShut]))) := by
  rw [wordsT_eq]; simp only [Ty.h, Ty.ks, wordsK_cons, wordsK_nil]; rfl
theorem w_ref (a : Ty) : wordsT (.node ⟨3, 0⟩ [a]) = wRef :: tw a := by
  rw [wordsT_eq]; simp only [Ty.h, Ty.ks, wordsK_cons, wordsK_nil]; rfl
theorem w_fn (a b : Ty) : wordsT (.node ⟨4, 0⟩ [a, b]) = tw a ++ (wArrow :: wordsT b) := by
  rw [wordsT_eq]; simp only [Ty.h, Ty.ks, wordsK_cons, wordsK_nil]; rfl
theorem t_int : tw (.node ⟨1, 0⟩ []) = [wInt] := by unfold tw tightW; rw [w_int]; rfl
theorem t_pair (a b : Ty) : tw (.node ⟨2, 0⟩ [a, b]) = wOpen :: (wordsT a ++ (wStar :: (wordsT b ++ [wShut]))) := by unfold tw tightW; rw [w_pair]; rfl
theorem t_ref (a : Ty) : tw (.node ⟨3, 0⟩ [a]) = wRef :: tw a := by rw [tw, tightW, w_ref]; rfl
theorem t_fn (a b : Ty) : tw (.node ⟨4, 0⟩ [a, b]) = wOpen :: (wordsT (.node ⟨4, 0⟩ [a, b]) ++ [wShut]) := by rw [tw, tightW]; rfl
theorem words_nobl {t : Ty} (h : Shape t) : (∀ x ∈ wordsT t, NoBl (bl x)) ∧ (∀ x ∈ tw t, NoBl (bl x)) := by
  have c1 : NoBl (bl wInt) := by unfold NoBl; decide
  have c2 : NoBl (bl wOpen) := by unfold NoBl; decide
  have c3 : NoBl (bl wShut) := by unfold NoBl; decide
  have c4 : NoBl (bl wStar) := by unfold NoBl; decide
  have c5 : NoBl (bl wRef) := by unfold NoBl; decide
  have c6 : NoBl (bl wArrow) := by unfold NoBl; decide
  induction h with
  | int => rw [w_int, t_int]; constructor <;> (intro x hx; simp at hx; subst hx; exact c1)
  | pair a b ha hb iha ihb =>
    rw [w_pair, t_pair]
    constructor <;>
    · intro x hx
      simp only [List.mem_cons, List.mem_append, List.not_mem_nil, or_false] at hx
      rcases hx with rfl | hx | rfl | hx | rfl
      · exact c2
      · exact iha.1 x hx
      · exact c4
      · exact ihb.1 x hx
      · exact c3
  | ref a ha iha =>
    rw [w_ref, t_ref]
    constructor <;>
    · intro x hx
      simp only [List.mem_cons] at hx
      rcases hx with rfl | hx
      · exact c5
      · exact iha.2 x hx
  | fn a b ha hb iha ihb =>
    have hw : ∀ x ∈ wordsT (.node ⟨4, 0⟩ [a, b]), NoBl (bl x) := by
      intro x hx
      rw [w_fn] at hx
      simp only [List.mem_cons, List.mem_append] at hx
      rcases hx with hx | rfl | hx
      · exact iha.2 x hx
      · exact c6
      · exact ihb.1 x hx
    refine ⟨hw, ?_⟩
    rw [t_fn]
    intro x hx
    simp only [List.mem_cons, List.mem_append, List.not_mem_nil, or_false] at hx
    rcases hx with rfl | hx | rfl
    · exact c2
    · exact hw x hx
    · exact c3
/-- Such words don't begin with an arrow. -/
def Ends (r : List ByteArray) : Prop := ∀ q, r ≠ wArrow :: q
theorem ends_cons {x : ByteArray} {q : List ByteArray} (h : x ≠ wArrow) : Ends (x :: q) := fun q' e => h (by injection e)
theorem d1 : wInt ≠ wOpen := by decide
theorem d2 : wInt ≠ wRef := by decide
theorem d3 : wOpen ≠ wRef := by decide
theorem d4 : wStar ≠ wShut := by decide
theorem d5 : wStar ≠ wArrow := by decide
theorem d6 : wShut ≠ wArrow := by decide
theorem read_all : ∀ m : Nat,
    (∀ a, wt a ≤ m → Shape a → ∀ b, Shape b → ∀ r s, tw a ++ r = tw b ++ s → a = b ∧ r = s) ∧
    (∀ a, wt a ≤ m → Shape a → ∀ b, Shape b → ∀ r s, Ends r → Ends s → wordsT a ++ r = wordsT b ++ s → a = b ∧ r = s) := by
  intro m
  induction m with
  | zero => exact ⟨fun a h => by have := wt_pos a; omega, fun a h => by have := wt_pos a; omega⟩
  | succ m ih =>
    obtain ⟨ihT, ihW⟩ := ih
    have w2 : ∀ k a b, wt (.node ⟨k, 0⟩ [a, b]) = wt a + wt b + 1 := fun k a b => by rw [wt_ks]; simp only [Ty.ks]; rw [wts_cons, wts_cons, wts_nil]; omega
    have w1 : ∀ k a, wt (.node ⟨k, 0⟩ [a]) = wt a + 1 := fun k a => by rw [wt_ks]; simp only [Ty.ks]; rw [wts_cons, wts_nil]
    -- what is not a function's
    have h1 : ∀ a, wt a ≤ m + 1 → Shape a → a.h.k ≠ 4 → ∀ b, Shape b → ∀ r s, tw a ++ r = tw b ++ s → a = b ∧ r = s := by
      intro a hw ha hn b hb r s h
      cases ha with
      | int =>
        cases hb with
        | int => rw [t_int] at h; exact ⟨rfl, by simpa using h⟩
        | pair x y hx hy => rw [t_int, t_pair] at h; simp only [List.cons_append, List.cons.injEq] at h; exact absurd h.1 d1
        | ref x hx => rw [t_int, t_ref] at h; simp only [List.cons_append, List.cons.injEq] at h; exact absurd h.1 d2
        | fn x y hx hy => rw [t_int, t_fn] at h; simp only [List.cons_append, List.cons.injEq] at h; exact absurd h.1 d1
      | pair a0 a1 h0 h1 =>
        have hww := w2 2 a0 a1
        cases hb with
        | int => rw [t_int, t_pair] at h; simp only [List.cons_append, List.cons.injEq] at h; exact absurd h.1.symm d1
        | pair x y hx hy =>
          rw [t_pair, t_pair] at h
          simp only [List.cons_append, List.append_assoc, List.cons.injEq, true_and] at h
          obtain ⟨e1, h2⟩ := ihW a0 (by omega) h0 x hx _ _ (ends_cons d5) (ends_cons d5) h
          simp only [List.cons.injEq, true_and] at h2
          obtain ⟨e2, h3⟩ := ihW a1 (by omega) h1 y hy _ _ (ends_cons d6) (ends_cons d6) h2
          simp only [List.nil_append, List.cons.injEq, true_and] at h3
          rw [e1, e2]
          exact ⟨rfl, h3⟩
        | ref x hx => rw [t_ref, t_pair] at h; simp only [List.cons_append, List.cons.injEq] at h; exact absurd h.1 d3
        | fn x y hx hy =>
          rw [t_pair, t_fn] at h
          simp only [List.cons_append, List.append_assoc, List.cons.injEq, true_and] at h
          obtain ⟨e1, h2⟩ := ihW a0 (by omega) h0 _ (.fn x y hx hy) _ _ (ends_cons d5) (ends_cons d6) h
          simp only [List.nil_append, List.cons.injEq] at h2
          exact absurd h2.1 d4
      | ref a0 h0 =>
        have hww := w1 3 a0
        cases hb with
        | int => rw [t_int, t_ref] at h; simp only [List.cons_append, List.cons.injEq] at h; exact absurd h.1.symm d2
        | pair x y hx hy => rw [t_ref, t_pair] at h; simp only [List.cons_append, List.cons.injEq] at h; exact absurd h.1.symm d3
        | ref x hx =>
          rw [t_ref, t_ref] at h
          simp only [List.cons_append, List.cons.injEq, true_and] at h
          obtain ⟨e1, h2⟩ := ihT a0 (by omega) h0 x hx _ _ h
          rw [e1]
          exact ⟨rfl, h2⟩
        | fn x y hx hy => rw [t_ref, t_fn] at h; simp only [List.cons_append, List.cons.injEq] at h; exact absurd h.1.symm d3
      | fn a0 a1 h0 h1 => exact absurd rfl hn
    have tnot : ∀ a, Shape a → a.h.k ≠ 4 → wordsT a = tw a := by
      intro a ha hn
      unfold tw tightW
      rw [if_neg hn]
    -- all words
    have h2 : ∀ a, wt a ≤ m + 1 → Shape a → ∀ b, Shape b → ∀ r s, Ends r → Ends s → wordsT a ++ r = wordsT b ++ s → a = b ∧ r = s := by
      intro a hw ha b hb r s hr hs h
      by_cases hna : a.h.k = 4
      · cases ha with
        | int => cases hna
        | pair a0 a1 h0 h1 => cases hna
        | ref a0 h0 => cases hna
        | fn a0 a1 h0 h1' =>
          have hww := w2 4 a0 a1
          by_cases hnb : b.h.k = 4
          · cases hb with
            | int => cases hnb
            | pair x y hx hy => cases hnb
            | ref x hx => cases hnb
            | fn x y hx hy =>
              rw [w_fn, w_fn] at h
              simp only [List.cons_append, List.append_assoc] at h
              obtain ⟨e1, h3⟩ := ihT a0 (by omega) h0 x hx _ _ h
              simp only [List.cons.injEq, true_and] at h3
              obtain ⟨e2, h4⟩ := ihW a1 (by omega) h1' y hy _ _ hr hs h3
              rw [e1, e2]
              exact ⟨rfl, h4⟩
          · rw [w_fn, tnot b hb hnb] at h
            simp only [List.cons_append, List.append_assoc] at h
            obtain ⟨e1, h3⟩ := ihT a0 (by omega) h0 b hb _ _ h
            exact absurd h3.symm (hs _)
      · by_cases hnb : b.h.k = 4
        · cases hb with
          | int => cases hnb
          | pair x y hx hy => cases hnb
          | ref x hx => cases hnb
          | fn x y hx hy =>
            rw [w_fn, tnot a ha hna] at h
            simp only [List.cons_append, List.append_assoc] at h
            obtain ⟨e1, h3⟩ := h1 a hw ha hna x hx _ _ h
            exact absurd h3 (hr _)
        · rw [tnot a ha hna, tnot b hb hnb] at h
          exact h1 a hw ha hna b hb r s h
    refine ⟨?_, h2⟩
    intro a hw ha b hb r s h
    by_cases hna : a.h.k = 4
    · cases ha with
      | int => cases hna
      | pair a0 a1 h0 h1 => cases hna
      | ref a0 h0 => cases hna
      | fn a0 a1 h0 h1' =>
        cases hb with
        | int => rw [t_int, t_fn] at h; simp only [List.cons_append, List.cons.injEq] at h; exact absurd h.1.symm d1
        | pair x y hx hy =>
          rw [t_fn, t_pair] at h
          simp only [List.cons_append, List.append_assoc, List.cons.injEq, true_and] at h
          obtain ⟨e1, h3⟩ := h2 _ hw (.fn a0 a1 h0 h1') x hx _ _ (ends_cons d6) (ends_cons d5) h
          simp only [List.nil_append, List.cons.injEq] at h3
          exact absurd h3.1.symm d4
        | ref x hx => rw [t_fn, t_ref] at h; simp only [List.cons_append, List.cons.injEq] at h; exact absurd h.1 d3
        | fn x y hx hy =>
          rw [t_fn, t_fn] at h
          simp only [List.cons_append, List.append_assoc, List.cons.injEq, true_and] at h
          obtain ⟨e1, h3⟩ := h2 _ hw (.fn a0 a1 h0 h1') _ (.fn x y hx hy) _ _ (ends_cons d6) (ends_cons d6) h
          simp only [List.nil_append, List.cons.injEq, true_and] at h3
          exact ⟨e1, h3⟩
    · exact h1 a hw ha hna b hb r s h
theorem text_inj {a b : Ty} (ma : mayT a = true) (mb : mayT b = true) (ca : hasT 5 a = false) (cb : hasT 5 b = false) (h : jb (wordsT a) = jb (wordsT b)) : a = b := by
  have sa := shape_of _ a (Nat.le_refl _) ma ca
  have sb := shape_of _ b (Nat.le_refl _) mb cb
  have h1 := jb_inj (words_nobl sa).1 (words_nobl sb).1 (words_nil ma) (words_nil mb) h
  exact ((read_all (wt a)).2 a (Nat.le_refl _) sa b sb [] [] (fun q e => by cases e) (fun q e => by cases e) (by rw [h1])).1
end Types
end Go.Proofs.YtgcnibipikondaaDoor
