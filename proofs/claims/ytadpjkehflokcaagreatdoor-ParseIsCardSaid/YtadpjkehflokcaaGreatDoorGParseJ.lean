/-Texts one behind the other, cut into tokens. The program's reading of a text of not too many tokens. -/
import Derived.Test.YtadpjkehflokcaaGreatDoorGTokA
import Derived.Test.YtadpjkehflokcaaGreatDoorGParseH
namespace Go.Proofs.YtadpjkehflokcaaGreatDoor
set_option linter.unusedVariables false
namespace Token
open Chars (cls el isin run Bytes)

/-- Nothing stands there, or what no token goes on with: no letter, no digit, no '=', no '>'. -/
def Halt (zs : List Int) : Prop := zs = [] ∨ (cls (el zs 0) ≠ 2 ∧ cls (el zs 0) ≠ 3 ∧ cls (el zs 0) ≠ 4 ∧ el zs 0 ≠ 61 ∧ el zs 0 ≠ 62)
theorem halt_run (ys zs : List Int) (hy : ∀ y ∈ ys, y = 2 ∨ y = 3 ∨ y = 4) (hz : Halt zs) : run ys zs = 0 := by
  cases zs with
  | nil => rfl
  | cons z r =>
    rcases hz with h | ⟨h2, h3, h4, _⟩
    · cases h
    · have hz2 : cls z ≠ 2 := h2
      have hz3 : cls z ≠ 3 := h3
      have hz4 : cls z ≠ 4 := h4
      have hn : isin ys (cls z) = false := by
        unfold isin
        exact decide_eq_false fun hm => by rcases hy _ hm with h | h | h <;> omega
      rw [run_cons, hn]; rfl
theorem halt_append (ys zs : List Int) (hy : ∀ y ∈ ys, y = 2 ∨ y = 3 ∨ y = 4) (hz : Halt zs) : ∀ xs : List Int, run ys (xs ++ zs) = run ys xs
  | [] => by rw [List.nil_append, halt_run ys zs hy hz]; rfl
  | x :: r => by
    have ih := halt_append ys zs hy hz r
    rw [List.cons_append, run_cons, run_cons, ih]
theorem piece_halt (xs zs : List Int) (h0 : xs ≠ []) (hz : Halt zs) : pieceN (xs ++ zs) = pieceN xs ∧ pieceK (xs ++ zs) = pieceK xs := by
  have hl : 0 < xs.length := List.length_pos_iff.2 h0
  have he := el_append xs zs 0 hl
  have hr2 := halt_append [2] zs (by intro y hy; simp at hy; omega) hz xs
  have hr3 := halt_append [3, 4, 2] zs (by intro y hy; simp at hy; omega) hz xs
  have hle2 := Chars.run_le [2] xs
  have hle3 := Chars.run_le [3, 4, 2] xs
  have ht : two (xs ++ zs) = two xs := by
    unfold two
    rw [he, decide_eq_decide]
    by_cases h1 : 1 < xs.length
    · rw [el_append xs zs 1 h1, List.length_append]
      exact ⟨fun h => ⟨h1, h.2⟩, fun h => ⟨by omega, h.2⟩⟩
    · refine ⟨fun h => ?_, fun h => absurd h.1 h1⟩
      exfalso
      have h1' : xs.length = 1 := by omega
      rcases hz with rfl | ⟨_, _, _, h61, h62⟩
      · rw [List.append_nil] at h; exact h1 h.1
      · have : el (xs ++ zs) 1 = el zs 0 := by
          unfold el
          rw [List.getD_eq_getElem?_getD, List.getD_eq_getElem?_getD, List.getElem?_append_right (by omega), h1']
        rw [this] at h
        rcases h.2 with ⟨_, h⟩ | ⟨_, h⟩
        · exact h61 h
        · exact h62 h
  constructor
  · unfold pieceN
    rw [he, hr2, hr3, ht]
  · unfold pieceK
    rw [he, hr2, hr3, ht, List.take_append_of_le_length hle2, List.take_append_of_le_length hle3]
/-- A text ahead of what halts it: its tokens, then the other one's. -/
theorem lex_app (zs : List Int) (hz : Halt zs) : ∀ (n : Nat) (xs : List Int) (a : Nat) (ts : List Tok), xs.length ≤ n → lex xs a = .inr ts → lex (xs ++ zs) a = pre ts (lex zs (a + xs.length))
  | 0, xs, a, ts, hn, h => by
    have : xs = [] := List.length_eq_zero_iff.1 (by omega)
    subst this
    rw [lex_nil] at h
    injection h with h
    subst h
    rw [pre_nil]; rfl
  | n + 1, xs, a, ts, hn, h => by
    by_cases h0 : xs = []
    · subst h0
      rw [lex_nil] at h
      injection h with h
      subst h
      rw [pre_nil]; rfl
    have hl : 0 < xs.length := List.length_pos_iff.2 h0
    have h0' : xs ++ zs ≠ [] := by simp [h0]
    have he := el_append xs zs 0 hl
    by_cases hc : cls (el xs 0) = 1
    · rw [lex_blank xs a h0 hc] at h
      rw [lex_blank _ a h0' (by rw [he]; exact hc), List.drop_append_of_le_length hl]
      rw [lex_app zs hz n _ _ ts (by rw [List.length_drop]; omega) h, List.length_drop]
      congr 2; omega
    by_cases hk : pieceK xs = 0
    · rw [lex_bad xs a h0 hc hk] at h
      cases h
    obtain ⟨e1, e2⟩ := piece_halt xs zs h0 hz
    obtain ⟨p1, p2⟩ := pieceN_pos xs h0
    rw [lex_tok xs a h0 hk] at h
    rw [lex_tok _ a h0' (by rw [e2]; exact hk), e1, List.drop_append_of_le_length p2]
    have hta : tokAt (xs ++ zs) a = tokAt xs a := by unfold tokAt; rw [e1, e2, List.take_append_of_le_length p2]
    rw [hta]
    cases hr : lex (xs.drop (pieceN xs)) (a + pieceN xs) with
    | inl j => rw [hr] at h; cases h
    | inr us =>
      rw [hr] at h
      injection h with h
      rw [lex_app zs hz n _ _ us (by rw [List.length_drop]; omega) hr, pre_pre, ← h, List.length_drop]
      congr 2; omega
/-- The same tokens, further on. -/
theorem lex_far : ∀ (n : Nat) (xs : List Int) (a b : Nat) (ts : List Tok), xs.length ≤ n → lex xs a = .inr ts → ∃ us, lex xs b = .inr us ∧ us.length = ts.length ∧ ∀ i, i < ts.length → (us.getD i ⟨0, ByteArray.empty, 0⟩).k = (ts.getD i ⟨0, ByteArray.empty, 0⟩).k ∧ (us.getD i ⟨0, ByteArray.empty, 0⟩).s = (ts.getD i ⟨0, ByteArray.empty, 0⟩).s
  | 0, xs, a, b, ts, hn, h => by
    have : xs = [] := List.length_eq_zero_iff.1 (by omega)
    subst this
    rw [lex_nil] at h
    injection h with h
    subst h
    exact ⟨[], lex_nil b, rfl, fun i hi => by simp at hi⟩
  | n + 1, xs, a, b, ts, hn, h => by
    by_cases h0 : xs = []
    · subst h0
      rw [lex_nil] at h
      injection h with h
      subst h
      exact ⟨[], lex_nil b, rfl, fun i hi => by simp at hi⟩
    have hl : 0 < xs.length := List.length_pos_iff.2 h0
    by_cases hc : cls (el xs 0) = 1
    · rw [lex_blank xs a h0 hc] at h
      rw [lex_blank xs b h0 hc]
      exact lex_far n _ _ _ ts (by rw [List.length_drop]; omega) h
    by_cases hk : pieceK xs = 0
    · rw [lex_bad xs a h0 hc hk] at h
      cases h
    obtain ⟨p1, p2⟩ := pieceN_pos xs h0
    rw [lex_tok xs a h0 hk] at h
    rw [lex_tok xs b h0 hk]
    cases hr : lex (xs.drop (pieceN xs)) (a + pieceN xs) with
    | inl j => rw [hr] at h; cases h
    | inr us =>
      rw [hr] at h
      injection h with h
      obtain ⟨vs, hv, hvl, hvs⟩ := lex_far n _ (a + pieceN xs) (b + pieceN xs) us (by rw [List.length_drop]; omega) hr
      rw [hv]
      have h' : tokAt xs a :: us = ts := h
      subst h'
      refine ⟨tokAt xs b :: vs, rfl, by simp [hvl], fun i hi => ?_⟩
      cases i with
      | zero => exact ⟨rfl, rfl⟩
      | succ i => exact hvs i (by simpa using hi)
end Token
end Go.Proofs.YtadpjkehflokcaaGreatDoor
namespace Go.Proofs.YtadpjkehflokcaaGreatDoor
open Go.RowKit
set_option linter.unusedVariables false
set_option linter.unusedSimpArgs false
namespace Parse
open Token (Tok tel ToksAt BytesIn LexEnd lex endT)
open Term (Tm Hd TmIs Kids ret_bool ret_i64 Reads veil Flat tcells)
set_option maxRecDepth 100000 in
set_option maxHeartbeats 25600000 in
theorem whole_mid (p : Option Addr) (n d : Nat) (xs : List Int) (w : World) (hb : BytesIn w p n d xs) (hl : Words.Laid2 w) (hsm : xs.length ≤ 65536) (hmid : ∀ us, Token.lex xs 0 = .inr us → us.length ≤ 4000) :
    Calls Tryz.prog 25 #[.slice p n d, .func (.func 26) #[] #[]] w (TermRet (termRes xs) w) := by
  have hmf : ∀ (fn : Fn) (first cap : Array Value) (w : World), (Instr.makeFunc fn first cap).run Tryz.prog w = .ok (.func fn first cap) w := fun _ _ _ _ => rfl
  have hbx : ∀ A B C : Obj, Below w.heap.size w (((w.alloc A).alloc B).alloc C) := fun A B C => (((Below.refl _ _).alloc (Nat.le_refl _) A).alloc (by simp) B).alloc (by simp; omega) C
  have hlx := fun A B C => Token.lex_walk p n d xs (((w.alloc A).alloc B).alloc C) (hb.below (hbx A B C)) (hl.below (hbx A B C))
  have HLX := Lib.hid hlx; have HL := Lib.hid hl; have HSM := Lib.hid hsm
  have hxn := hb.1
  have HXN := Lib.hid hxn
  clear hlx hl hbx hb hxn hsm
  go_enter_defers Tryz.func25, Tryz.ntmps25
  go_wp2_with (fail)
  refine (HLX.out _ _ _).mono ?_
  rintro e w1 ⟨hbl, (⟨h1, q, c, rfl⟩ | ⟨h1, q, c, k, hk, rfl⟩ | ⟨h1, ts, g, c, hk, rfl, ht⟩)⟩
  · exact absurd h1 (by have := HSM.out; omega)
  · obtain ⟨b0, b1, b2, hB⟩ := boxes3 hbl
    have l0 := lt_of_block b0; have l1 := lt_of_block b1; have l2 := lt_of_block b2
    obtain ⟨⟨r0, r1, r2, r3, r4, r5, r6, r7⟩, f0, f1, f2, f3, f4, f5, f6, f7⟩ := cells8' b0
    obtain ⟨s0, s1⟩ := cells1' (N := w.heap.size + 1) b1
    obtain ⟨t0, t1⟩ := cells1' (N := w.heap.size + 1 + 1) b2
    have u0 := (Below.heap_setCell (w1.setCell ⟨w.heap.size + 1, 0, none⟩ (.int .i64 (k : Int))) ⟨w.heap.size + 1 + 1, 0, none⟩ (.int .i64 2) w.heap.size (by show w.heap.size ≠ w.heap.size + 1 + 1; omega)).trans ((Below.heap_setCell w1 ⟨w.heap.size + 1, 0, none⟩ (.int .i64 (k : Int)) w.heap.size (by show w.heap.size ≠ w.heap.size + 1; omega)).trans b0)
    have u1 := (Below.heap_setCell (w1.setCell ⟨w.heap.size + 1, 0, none⟩ (.int .i64 (k : Int))) ⟨w.heap.size + 1 + 1, 0, none⟩ (.int .i64 2) (w.heap.size + 1) (by show w.heap.size + 1 ≠ w.heap.size + 1 + 1; omega)).trans (set_block (j := 0) (v := .int .i64 (k : Int)) b1)
    have u2 := set_block (j := 0) (v := .int .i64 2) ((Below.heap_setCell w1 ⟨w.heap.size + 1, 0, none⟩ (.int .i64 (k : Int)) (w.heap.size + 1 + 1) (by show w.heap.size + 1 + 1 ≠ w.heap.size + 1; omega)).trans b2)
    have hBU := (hB.trans (set_above (B := w.heap.size) w1 (w.heap.size + 1) 0 (.int .i64 (k : Int)) (by omega))).trans (set_above (B := w.heap.size) _ (w.heap.size + 1 + 1) 0 (.int .i64 2) (by omega))
    have HBZ0 := Lib.hid u0; have HBZ1 := Lib.hid u1; have HBZ2 := Lib.hid u2; have HBU := Lib.hid hBU
    clear u0 u1 u2 hBU
    clear hbl b0 b1 b2 hB
    go_wp2_with (fail)
    generalize hg : (w1.setCell ⟨w.heap.size + 1, 0, none⟩ (.int .i64 (k : Int))).setCell ⟨w.heap.size + 1 + 1, 0, none⟩ (.int .i64 2) = u at *
    clear hg r0 r1 r2 r3 r4 r5 r6 r7 f0 f1 f2 f3 f4 f5 f6 f7 s0 s1 t0 t1 l0 l1 l2
    rename_i K1 a1 K2 a2
    have A2 := Lib.hid a2
    clear a1 a2
    refine wp_region_noPanic ?_
    refine wp_region_held_drew (S := fun W => W.heap[w.heap.size]? = some (.cells #[.int .u8 0, .int .u8 0, .int .i64 0, .int .i64 0, .string ⟨#[]⟩, .string ⟨#[]⟩, .string ⟨#[]⟩, .slice none 0 0] 29 (0, 0)) ∧ W.heap[w.heap.size + 1]? = some (.cells #[.int .i64 (k : Int)] 3 (0, 0)) ∧ W.heap[w.heap.size + 1 + 1]? = some (.cells #[.int .i64 2] 32 (0, 0)) ∧ Below w.heap.size w W) (by kernel_rfl) ⟨HBZ0.out, HBZ1.out, HBZ2.out, HBU.out.trans ((Below.refl _ _).drew)⟩ (fun hHeld => ?_)
    generalize hv : u.drew = v at hHeld ⊢
    clear hv
    refine wpAnyH_take (i := 0) (v := .agg #[.int .u8 0, .int .u8 0, .int .i64 0, .int .i64 0, .string ⟨#[]⟩, .string ⟨#[]⟩, .string ⟨#[]⟩, .slice none 0 0]) rfl (by kernel_rfl) (by kernel_rfl) (by kernel_rfl) (fun _ _ _ h => h) (Or.inl ⟨by rfl, ?_⟩) (by assumption) ?_
    · intro w' hSw
      obtain ⟨⟨q0, q1, q2, q3, q4, q5, q6, q7⟩, e0, e1, e2, e3, e4, e5, e6, e7⟩ := cells8' hSw.1
      go_simp
    try simp only [Act.put, List.getElem_toArray, List.getElem_cons_succ, List.getElem_cons_zero, List.setIfInBounds_toArray, List.set_cons_zero, List.set_cons_succ]
    refine wpAnyH_take (i := 1) (v := .int .i64 (k : Int)) rfl (by kernel_rfl) (by kernel_rfl) (by kernel_rfl) (fun _ _ _ h => h) (Or.inl ⟨by rfl, ?_⟩) (by assumption) ?_
    · intro w' hSw
      obtain ⟨q0, e0⟩ := cells1' hSw.2.1
      go_simp
    try simp only [Act.put, List.getElem_toArray, List.getElem_cons_succ, List.getElem_cons_zero, List.setIfInBounds_toArray, List.set_cons_zero, List.set_cons_succ]
    refine wpAnyH_take (i := 2) (v := .int .i64 2) rfl (by kernel_rfl) (by kernel_rfl) (by kernel_rfl) (fun _ _ _ h => h) (Or.inl ⟨by rfl, ?_⟩) (by assumption) ?_
    · intro w' hSw
      obtain ⟨q0, e0⟩ := cells1' hSw.2.2.1
      go_simp
    try simp only [Act.put, List.getElem_toArray, List.getElem_cons_succ, List.getElem_cons_zero, List.setIfInBounds_toArray, List.set_cons_zero, List.set_cons_succ]
    refine wpAnyH_ready (rs := [3]) (by kernel_rfl) (by simp) ?_
    refine AllReadyH.cons rfl (fun K hK => ?_) AllReadyH.nil
    have HH := Lib.hid hHeld
    clear hHeld
    rw [if_pos (by rfl)]
    refine wp_store8 _ _ _ _ _ _ _ _ _ _ _ _ _ _ _ _ _ _ _ _ _ _ _ _ _ _ _ _ rfl rfl HH.out.1 ?_
    refine hK.out _ _ ?_ (fun hHeld => ?_)
    · exact ⟨set8_block HH.out.1, (set8_other v w.heap.size _ _ _ _ _ _ _ _ (w.heap.size + 1) (by omega)).trans HH.out.2.1, (set8_other v w.heap.size _ _ _ _ _ _ _ _ (w.heap.size + 1 + 1) (by omega)).trans HH.out.2.2.1, HH.out.2.2.2.trans (Below.set8 w v _ (Nat.le_refl _) _ _ _ _ _ _ _ _)⟩
    clear hK K HH
    generalize hg : ((((((((v.setCell ⟨w.heap.size, 0, none⟩ (.int .u8 0)).setCell ⟨w.heap.size, 1, none⟩ (.int .u8 0)).setCell ⟨w.heap.size, 2, none⟩ (.int .i64 0)).setCell ⟨w.heap.size, 3, none⟩ (.int .i64 0)).setCell ⟨w.heap.size, 4, none⟩ (.string ⟨#[]⟩)).setCell ⟨w.heap.size, 5, none⟩ (.string ⟨#[]⟩)).setCell ⟨w.heap.size, 6, none⟩ (.string ⟨#[]⟩)).setCell ⟨w.heap.size, 7, none⟩ (.slice none 0 0)) = v2 at hHeld ⊢
    clear hg
    refine wpAnyH_ready (rs := [4]) (by kernel_rfl) (by simp) ?_
    refine AllReadyH.cons rfl (fun K hK => ?_) AllReadyH.nil
    have HH := Lib.hid hHeld
    clear hHeld
    rw [if_pos (by rfl)]
    refine wp_store1i _ _ _ _ _ _ _ _ _ _ _ _ rfl rfl HH.out.2.1 ?_
    refine hK.out _ _ ?_ (fun hHeld => ?_)
    · have n1 : w.heap.size ≠ w.heap.size + 1 := by omega
      have n2 : w.heap.size + 1 + 1 ≠ w.heap.size + 1 := by omega
      exact ⟨(Below.heap_setCell v2 ⟨w.heap.size + 1, 0, none⟩ (.int .i64 (k : Int)) w.heap.size n1).trans HH.out.1, set_block HH.out.2.1, (Below.heap_setCell v2 ⟨w.heap.size + 1, 0, none⟩ (.int .i64 (k : Int)) (w.heap.size + 1 + 1) n2).trans HH.out.2.2.1, HH.out.2.2.2.trans (set_above (B := w.heap.size) v2 (w.heap.size + 1) 0 _ (by omega))⟩
    clear hK K HH
    generalize hg : v2.setCell ⟨w.heap.size + 1, 0, none⟩ (.int .i64 (k : Int)) = v3 at hHeld ⊢
    clear hg
    refine wpAnyH_ready (rs := [5]) (by kernel_rfl) (by simp) ?_
    refine AllReadyH.cons rfl (fun K hK => ?_) AllReadyH.nil
    have HH := Lib.hid hHeld
    clear hHeld
    rw [if_pos (by rfl)]
    refine wp_store1e _ _ _ _ _ _ _ _ _ _ _ _ rfl rfl HH.out.2.2.1 ?_
    refine hK.out _ _ ?_ (fun hHeld => ?_)
    · have n1 : w.heap.size ≠ w.heap.size + 1 + 1 := by omega
      have n2 : w.heap.size + 1 ≠ w.heap.size + 1 + 1 := by omega
      exact ⟨(Below.heap_setCell v3 ⟨w.heap.size + 1 + 1, 0, none⟩ (.int .i64 2) w.heap.size n1).trans HH.out.1, (Below.heap_setCell v3 ⟨w.heap.size + 1 + 1, 0, none⟩ (.int .i64 2) (w.heap.size + 1) n2).trans HH.out.2.1, set_block HH.out.2.2.1, HH.out.2.2.2.trans (set_above (B := w.heap.size) v3 (w.heap.size + 1 + 1) 0 _ (by omega))⟩
    clear hK K HH
    generalize hg : v3.setCell ⟨w.heap.size + 1 + 1, 0, none⟩ (.int .i64 2) = v4 at hHeld ⊢
    clear hg
    refine wpAnyH_done (by kernel_rfl) ?_ _
    refine NoPanic.normal ?_
    have HH := Lib.hid hHeld
    clear hHeld
    have a2 := A2.out
    go_wp2_with (fail)
    obtain ⟨⟨q0, q1, q2, q3, q4, q5, q6, q7⟩, e0, e1, e2, e3, e4, e5, e6, e7⟩ := cells8' HH.out.1
    obtain ⟨q8, e8⟩ := cells1' HH.out.2.1
    obtain ⟨q9, e9⟩ := cells1' HH.out.2.2.1
    refine ⟨.tuple #[.agg #[.int .u8 0, .int .u8 0, .int .i64 0, .int .i64 0, .string ⟨#[]⟩, .string ⟨#[]⟩, .string ⟨#[]⟩, .slice none 0 0], .int .i64 (k : Int), .int .i64 2], by simp [results, Tryz.results25, go_sem, q0, q1, q2, q3, q4, q5, q6, q7, q8, q9], HH.out.2.2.2, .inl ⟨(k : Int), 2, (by unfold termRes; rw [if_neg (by omega), hk]), rfl⟩⟩
  · obtain ⟨ht, hcn, hcm⟩ := ht
    obtain ⟨b0, b1, b2, hB⟩ := boxes3 hbl
    have l0 := lt_of_block b0; have l1 := lt_of_block b1; have l2 := lt_of_block b2
    obtain ⟨⟨r0, r1, r2, r3, r4, r5, r6, r7⟩, f0, f1, f2, f3, f4, f5, f6, f7⟩ := cells8' b0
    obtain ⟨s0, s1⟩ := cells1' (N := w.heap.size + 1) b1
    obtain ⟨t0, t1⟩ := cells1' (N := w.heap.size + 1 + 1) b2
    have hT0 : 0 < (ts ++ [endT xs.length]).length := by simp
    have hg1 := toks_ne ht hT0 b1
    have hg2 := toks_ne ht hT0 b2
    have hgl : g < w1.heap.size := by obtain ⟨t0', _, _⟩ := ht 0 hT0; exact World.block_lt_of_cell? w1 _ t0'
    have u0 := (Below.heap_setCell (w1.setCell ⟨w.heap.size + 1, 0, none⟩ (.int .i64 0)) ⟨w.heap.size + 1 + 1, 0, none⟩ (.int .i64 0) w.heap.size (by show w.heap.size ≠ w.heap.size + 1 + 1; omega)).trans ((Below.heap_setCell w1 ⟨w.heap.size + 1, 0, none⟩ (.int .i64 0) w.heap.size (by show w.heap.size ≠ w.heap.size + 1; omega)).trans b0)
    have u1 := (Below.heap_setCell (w1.setCell ⟨w.heap.size + 1, 0, none⟩ (.int .i64 0)) ⟨w.heap.size + 1 + 1, 0, none⟩ (.int .i64 0) (w.heap.size + 1) (by show w.heap.size + 1 ≠ w.heap.size + 1 + 1; omega)).trans (set_block (j := 0) (v := .int .i64 0) b1)
    have u2 := set_block (j := 0) (v := .int .i64 0) ((Below.heap_setCell w1 ⟨w.heap.size + 1, 0, none⟩ (.int .i64 0) (w.heap.size + 1 + 1) (by show w.heap.size + 1 + 1 ≠ w.heap.size + 1; omega)).trans b2)
    have hBU := (hB.trans (set_above (B := w.heap.size) w1 (w.heap.size + 1) 0 (.int .i64 0) (by omega))).trans (set_above (B := w.heap.size) _ (w.heap.size + 1 + 1) 0 (.int .i64 0) (by omega))
    have HBZ0 := Lib.hid u0; have HBZ1 := Lib.hid u1; have HBZ2 := Lib.hid u2; have HBU := Lib.hid hBU
    have htu : ToksAt ((w1.setCell ⟨w.heap.size + 1, 0, none⟩ (.int .i64 0)).setCell ⟨w.heap.size + 1 + 1, 0, none⟩ (.int .i64 0)) g (ts ++ [endT xs.length]) := ToksAt.far ht ((Below.heap_setCell (w1.setCell ⟨w.heap.size + 1, 0, none⟩ (.int .i64 0)) ⟨w.heap.size + 1 + 1, 0, none⟩ (.int .i64 0) g hg2).trans (Below.heap_setCell w1 ⟨w.heap.size + 1, 0, none⟩ (.int .i64 0) g hg1))
    have HTU := Lib.hid htu; have HK := Lib.hid hk; have HCN := Lib.hid (And.intro hcn hcm)
    have hlen := Token.lex_len hk
    have hle : ts.length ≤ 4000 := hmid ts HK.out
    have ha : IntKind.i64.wrap (((ts.length + 1 : Nat) : Int) - 1) = (ts.length : Int) := by rw [show ((ts.length + 1 : Nat) : Int) - 1 = (ts.length : Int) by omega]; exact IntWalk.i64_in _ (by omega)
    have ha' : IntKind.i64.wrap ((ts.length : Int) + 1 - 1) = (ts.length : Int) := by rw [show (ts.length : Int) + 1 - 1 = (ts.length : Int) by omega]; exact IntWalk.i64_in _ (by omega)
    have hbz : ¬ (4000 : Int) < (ts.length : Int) := by omega
    have HLE := Lib.hid hle
    clear u0 u1 u2 hBU htu hk hcn hcm ht hT0 hg1 hg2 hlen hle hgl
    clear hbl b0 b1 b2 hB
    go_wp2_with (fail)
    generalize hgu : (w1.setCell ⟨w.heap.size + 1, 0, none⟩ (.int .i64 0)).setCell ⟨w.heap.size + 1 + 1, 0, none⟩ (.int .i64 0) = u at *
    have hsz : u.heap.size = w1.heap.size := by rw [← hgu]; simp [World.setCell]
    clear hgu r0 r1 r2 r3 r4 r5 r6 r7 f0 f1 f2 f3 f4 f5 f6 f7 s0 s1 t0 t1
    have hP : w.heap.size + 2 < w1.heap.size := l2
    rw [← hsz] at hP l0 l1 l2 ⊢
    clear hsz
    have hGd := good_of_lex HK.out
    have hgl : g < u.heap.size := by obtain ⟨t0', _, _⟩ := HTU.out 0 (by simp); exact World.block_lt_of_cell? u _ t0'
    have hal : ∀ O : Obj, Below u.heap.size u (u.alloc O) := fun O => (Below.refl _ _).alloc (Nat.le_refl _) O
    have hpr : PR (u.alloc (.cells #[.slice (some ⟨g, 0, none⟩) (ts.length + 1) c] 86)) u.heap.size g (ts.length + 1) c 0 (ts ++ [endT xs.length]) := by
      refine ⟨row_of_lex HK.out (by have := HSM.out; omega) (ToksAt.far HTU.out ((hal _).block _ hgl)) HCN.out.1 HCN.out.2, by omega, hGd, by omega, ?_⟩
      have hh := heap_alloc_new u (.cells #[.slice (some ⟨g, 0, none⟩) (ts.length + 1) c] 86)
      unfold PAt
      rw [hh]
      simp
    have hlay : Lay (u.alloc (.cells #[.slice (some ⟨g, 0, none⟩) (ts.length + 1) c] 86)) u.heap.size := lay_of HL.out.2 (HBU.out.trans ((Below.refl _ u).alloc (by omega) _)) (by omega)
    obtain ⟨r, hr⟩ := enough0 hGd.row
    have hres : termRes xs = resOf (ts ++ [endT xs.length]) (some r) := by
      unfold termRes
      rw [if_neg (by have := HSM.out; omega), HK.out]
      show toksRes ts xs.length = _
      unfold toksRes
      rw [if_neg (by have := HLE.out; omega), hr]
    have hex := expr_walk (fuelOf (ts ++ [endT xs.length])) _ _ _ _ _ _ _ r hpr hlay hr
    have HEX := Lib.hid hex; have HRES := Lib.hid hres; have HGD := Lib.hid hGd
    have HZA := Lib.hid (And.intro (((hal (.cells #[.slice (some ⟨g, 0, none⟩) (ts.length + 1) c] 86)).block _ l0).trans HBZ0.out) (And.intro (((hal (.cells #[.slice (some ⟨g, 0, none⟩) (ts.length + 1) c] 86)).block _ l1).trans HBZ1.out) (((hal (.cells #[.slice (some ⟨g, 0, none⟩) (ts.length + 1) c] 86)).block _ l2).trans HBZ2.out)))
    have HBW := Lib.hid (HBU.out.trans ((Below.refl w.heap.size u).alloc (by omega) (.cells #[.slice (some ⟨g, 0, none⟩) (ts.length + 1) c] 86)))
    clear hGd hpr hlay hr hres hex hal HTU HBZ0 HBZ1 HBZ2
    refine HEX.out.mono ?_
    rintro e y0 (⟨hbd, ⟨h, p0, l, d0, rfl, hT⟩, ho, hp⟩ | ⟨hbd, rfl, ho⟩)
    rotate_left
    · unfold thrown strayV
      have HZ0 := Lib.hid (box_later HZA.out.1 ho (by omega)); have HZ1 := Lib.hid (box_later HZA.out.2.1 ho (by omega)); have HZ2 := Lib.hid (box_later HZA.out.2.2 ho (by omega))
      have HBY : Hid (Below w.heap.size w y0) := Lib.hid ⟨ho.os.trans HBW.out.os, ho.tape.trans HBW.out.tape, ho.output.trans HBW.out.output, Nat.le_trans HBW.out.size ho.size, fun k hk => (ho.block k (Nat.lt_of_lt_of_le hk HBW.out.size) (by omega)).trans (HBW.out.block k hk)⟩
      have HRS : Hid (termRes xs = .bad (tel (ts ++ [endT xs.length]) r.1.i).a 2) := Lib.hid (by rw [HRES.out]; unfold resOf; exact if_neg (by rw [hbd]; simp))
      clear hbd ho ha ha' hbz
      go_wp2_with (fail)
      refine leaves_cons (f := 50) (args := #[.pointer (some ⟨w.heap.size + 1, 0, none⟩), .pointer (some ⟨w.heap.size + 1 + 1, 0, none⟩)]) (by simp) (by simp [go_sem]) ?_
      obtain ⟨q1, e1⟩ := cells1' HZ1.out
      obtain ⟨q2, e2⟩ := cells1' HZ2.out
      refine (catch_stray (w.heap.size + 1) (w.heap.size + 1 + 1) (tel (ts ++ [endT xs.length]) r.1.i) 0 0 _ q1 q2 e1 e2 (by omega) (by omega) (lt_of_block HZ1.out) (lt_of_block HZ2.out)).mono ?_
      rintro e u' w'' ⟨rfl, rfl, rfl⟩
      obtain ⟨⟨b0, b1, b2, b3, b4, b5, b6, b7⟩, f0, f1, f2, f3, f4, f5, f6, f7⟩ := cells8' HZ0.out
      have l0 := lt_of_block HZ0.out
      have l1 := lt_of_block HZ1.out
      have l2 := lt_of_block HZ2.out
      have n1 : ¬ w.heap.size = w.heap.size + 1 := by omega
      have n2 : ¬ w.heap.size = w.heap.size + 1 + 1 := by omega
      have n3 : ¬ w.heap.size + 1 = w.heap.size := by omega
      have n4 : ¬ w.heap.size + 1 + 1 = w.heap.size := by omega
      refine ⟨Value.tuple #[.agg #[.int .u8 0, .int .u8 0, .int .i64 0, .int .i64 0, .string ⟨#[]⟩, .string ⟨#[]⟩, .string ⟨#[]⟩, .slice none 0 0], .int .i64 (tel (ts ++ [endT xs.length]) r.1.i).a, .int .i64 2], by simp [results, Tryz.results25, go_sem, b0, b1, b2, b3, b4, b5, b6, b7, l0, l1, l2, q1, q2], ?_⟩
      refine ⟨(HBY.out.trans ((set_above (B := w.heap.size) _ (w.heap.size + 1) 0 _ (by omega)).trans (set_above (B := w.heap.size) _ (w.heap.size + 1 + 1) 0 _ (by omega)))).alloc (by have := HBY.out.size; simpa [World.setCell] using this) _, .inl ⟨_, _, HRS.out, rfl⟩⟩
    have HZ0 := Lib.hid (box_later HZA.out.1 ho (by omega)); have HZ1 := Lib.hid (box_later HZA.out.2.1 ho (by omega)); have HZ2 := Lib.hid (box_later HZA.out.2.2 ho (by omega))
    have HBY : Hid (Below w.heap.size w y0) := Lib.hid ⟨ho.os.trans HBW.out.os, ho.tape.trans HBW.out.tape, ho.output.trans HBW.out.output, Nat.le_trans HBW.out.size ho.size, fun k hk => (ho.block k (Nat.lt_of_lt_of_le hk HBW.out.size) (by omega)).trans (HBW.out.block k hk)⟩
    have hbx2 : ∀ O O' : Obj, Below y0.heap.size y0 ((y0.alloc O).alloc O') := fun O O' => ((Below.refl _ _).alloc (Nat.le_refl _) O).alloc (by simp) O'
    have hhs := fun O t => has_walk ((y0.alloc O).alloc (.cells #[.int .u8 6] t)) u.heap.size g (ts.length + 1) c r.1.i (ts ++ [endT xs.length]) (some ⟨y0.heap.size + 1, 0, none⟩) 1 1 [6] (hp.below (hbx2 _ _)) rfl (by unfold maxLen; omega) (fun W' hb' => by
      have hx := bytes_alloc (y0.alloc O) t [6]
      rw [show (y0.alloc O).heap.size = y0.heap.size + 1 from by simp] at hx
      rcases hx with hh | ⟨b, o, e, hc⟩
      · cases hh
      · exact .inr ⟨b, o, e, fun j hj => (hb'.cell (p := ⟨b, o + j, none⟩) (World.block_lt_of_cell? _ _ (hc j hj))).trans (hc j hj)⟩)
    have hsu : u.heap.size < y0.heap.size := Nat.lt_of_lt_of_le (by simp) ho.size
    have HHS := Lib.hid hhs; have HP := Lib.hid hp; have HT := Lib.hid hT; have HBD := Lib.hid hbd; have HSU := Lib.hid hsu
    clear hhs hbx2 hp hT hbd ho hsu ha ha' hbz
    go_wp2_with (fail)
    refine (HHS.out _ _).mono ?_
    rintro e y1 ⟨rfl, hb1⟩
    have hbb : Below y0.heap.size y0 y1 ∧ y1.heap[y0.heap.size]? = some (.cells #[.int .u8 h.k, .int .u8 h.op, .int .i64 h.pl, .int .i64 h.n, .string h.name, .string h.arg, .string h.exn, .slice p0 l d0] 29 (0, 0)) := by
      obtain ⟨_, hb2⟩ := one_box hb1
      obtain ⟨hb3, hb4⟩ := one_box hb2
      exact ⟨hb4, hb3⟩
    obtain ⟨hb2, htb⟩ := hbb
    have HB2 := Lib.hid hb2; have HTB := Lib.hid htb
    have HY0 := Lib.hid ((hb2.block _ (lt_of_block HZ0.out)).trans HZ0.out); have HY1 := Lib.hid ((hb2.block _ (lt_of_block HZ1.out)).trans HZ1.out); have HY2 := Lib.hid ((hb2.block _ (lt_of_block HZ2.out)).trans HZ2.out)
    have HBY1 : Hid (Below w.heap.size w y1) := Lib.hid (HBY.out.trans (hb2.mono HBY.out.size))
    clear hb1 hb2 htb HHS HZ0 HZ1 HZ2 HBY
    cases hk : Chars.isin [6] (tel (ts ++ [endT xs.length]) r.1.i).k
    · have hk6 : (tel (ts ++ [endT xs.length]) r.1.i).k ≠ 6 := by unfold Chars.isin at hk; simpa using hk
      have hnd := need_walk y1 u.heap.size g (ts.length + 1) c r.1.i (ts ++ [endT xs.length]) (HP.out.below HB2.out)
      have HND := Lib.hid hnd
      unfold thrown strayV at HND
      have HRS : Hid (termRes xs = .bad (tel (ts ++ [endT xs.length]) r.1.i).a 2) := Lib.hid (by rw [HRES.out]; unfold resOf; exact if_neg fun e => hk6 e.2)
      clear hk hk6 hnd
      go_wp2_with (fail)
      refine HND.out.mono ?_
      rintro e y2 ⟨rfl, hb3⟩
      have HZ0 := Lib.hid ((hb3.block _ (lt_of_block HY0.out)).trans HY0.out); have HZ1 := Lib.hid ((hb3.block _ (lt_of_block HY1.out)).trans HY1.out); have HZ2 := Lib.hid ((hb3.block _ (lt_of_block HY2.out)).trans HY2.out)
      have HBY : Hid (Below w.heap.size w y2) := Lib.hid (HBY1.out.trans (hb3.mono HBY1.out.size))
      clear hb3
      go_wp2_with (fail)
      refine leaves_cons (f := 50) (args := #[.pointer (some ⟨w.heap.size + 1, 0, none⟩), .pointer (some ⟨w.heap.size + 1 + 1, 0, none⟩)]) (by simp) (by simp [go_sem]) ?_
      obtain ⟨q1, e1⟩ := cells1' HZ1.out
      obtain ⟨q2, e2⟩ := cells1' HZ2.out
      refine (catch_stray (w.heap.size + 1) (w.heap.size + 1 + 1) (tel (ts ++ [endT xs.length]) r.1.i) 0 0 _ q1 q2 e1 e2 (by omega) (by omega) (lt_of_block HZ1.out) (lt_of_block HZ2.out)).mono ?_
      rintro e u' w'' ⟨rfl, rfl, rfl⟩
      obtain ⟨⟨b0, b1, b2, b3, b4, b5, b6, b7⟩, f0, f1, f2, f3, f4, f5, f6, f7⟩ := cells8' HZ0.out
      have l0 := lt_of_block HZ0.out
      have l1 := lt_of_block HZ1.out
      have l2 := lt_of_block HZ2.out
      have n1 : ¬ w.heap.size = w.heap.size + 1 := by omega
      have n2 : ¬ w.heap.size = w.heap.size + 1 + 1 := by omega
      have n3 : ¬ w.heap.size + 1 = w.heap.size := by omega
      have n4 : ¬ w.heap.size + 1 + 1 = w.heap.size := by omega
      refine ⟨Value.tuple #[.agg #[.int .u8 0, .int .u8 0, .int .i64 0, .int .i64 0, .string ⟨#[]⟩, .string ⟨#[]⟩, .string ⟨#[]⟩, .slice none 0 0], .int .i64 (tel (ts ++ [endT xs.length]) r.1.i).a, .int .i64 2], by simp [results, Tryz.results25, go_sem, b0, b1, b2, b3, b4, b5, b6, b7, l0, l1, l2, q1, q2], ?_⟩
      refine ⟨(HBY.out.trans ((set_above (B := w.heap.size) _ (w.heap.size + 1) 0 _ (by omega)).trans (set_above (B := w.heap.size) _ (w.heap.size + 1 + 1) 0 _ (by omega)))).alloc (by have := HBY.out.size; simpa [World.setCell] using this) _, .inl ⟨_, _, HRS.out, rfl⟩⟩
    · have hk6 : (tel (ts ++ [endT xs.length]) r.1.i).k = 6 := by unfold Chars.isin at hk; simpa using hk
      have HRS : Hid (termRes xs = .good r.2) := Lib.hid (by rw [HRES.out]; unfold resOf; exact if_pos ⟨HBD.out, hk6⟩)
      clear hk hk6
      go_wp2_with (fail)
      refine (need_ok _ _).mono ?_
      rintro e y2 ⟨rfl, rfl⟩
      obtain ⟨⟨b0, b1, b2, b3, b4, b5, b6, b7⟩, f0, f1, f2, f3, f4, f5, f6, f7⟩ := cells8' HY0.out
      obtain ⟨⟨t0, t1, t2, t3, t4, t5, t6, t7⟩, g0, g1, g2, g3, g4, g5, g6, g7⟩ := cells8' HTB.out
      obtain ⟨q1, e1⟩ := cells1' HY1.out
      obtain ⟨q2, e2⟩ := cells1' HY2.out
      have l0' := lt_of_block HY0.out
      have l1' := lt_of_block HY1.out
      have l2' := lt_of_block HY2.out
      have lt' := lt_of_block HTB.out
      go_wp2_with (fail)
      refine leaves_cons (f := 50) (args := #[.pointer (some ⟨w.heap.size + 1, 0, none⟩), .pointer (some ⟨w.heap.size + 1 + 1, 0, none⟩)]) (by simp) (by simp [go_sem]) ?_
      refine (catch_idle _ _ _).mono ?_
      rintro e u' w'' ⟨rfl, rfl, rfl⟩
      have n1 : ¬ w.heap.size = w.heap.size + 1 := by omega
      have n2 : ¬ w.heap.size = w.heap.size + 1 + 1 := by omega
      have n3 : ¬ w.heap.size + 1 = w.heap.size := by omega
      have n4 : ¬ w.heap.size + 1 + 1 = w.heap.size := by omega
      refine ⟨Value.tuple #[.agg #[.int .u8 h.k, .int .u8 h.op, .int .i64 h.pl, .int .i64 h.n, .string h.name, .string h.arg, .string h.exn, .slice p0 l d0], .int .i64 0, .int .i64 0], by simp [results, Tryz.results25, go_sem, b0, b1, b2, b3, b4, b5, b6, b7, l0', l1', l2', q1, q2], ?_⟩
      have hbw := ((Below.set8 w y1 w.heap.size (Nat.le_refl _) (.int .u8 h.k) (.int .u8 h.op) (.int .i64 h.pl) (.int .i64 h.n) (.string h.name) (.string h.arg) (.string h.exn) (.slice p0 l d0)).trans (set_above (B := w.heap.size) _ (w.heap.size + 1) 0 (.int .i64 0) (by omega))).trans (set_above (B := w.heap.size) _ (w.heap.size + 1 + 1) 0 (.int .i64 0) (by omega))
      refine ⟨HBY1.out.trans hbw, .inr ⟨r.2, h, p0, l, d0, HRS.out, rfl, ?_⟩⟩
      refine HT.out.reads' (fresh_step (B := w.heap.size) (W := (((((((((((y1.setCell ⟨w.heap.size, 0, none⟩ (.int .u8 h.k)).setCell ⟨w.heap.size, 1, none⟩ (.int .u8 h.op)).setCell ⟨w.heap.size, 2, none⟩ (.int .i64 h.pl)).setCell ⟨w.heap.size, 3, none⟩ (.int .i64 h.n)).setCell ⟨w.heap.size, 4, none⟩ (.string h.name)).setCell ⟨w.heap.size, 5, none⟩ (.string h.arg)).setCell ⟨w.heap.size, 6, none⟩ (.string h.exn)).setCell ⟨w.heap.size, 7, none⟩ (.slice p0 l d0))).setCell ⟨w.heap.size + 1, 0, none⟩ (.int .i64 0)).setCell ⟨w.heap.size + 1 + 1, 0, none⟩ (.int .i64 0))) (by simp; omega) fun k hk1 hk2 => ?_)
      have hk3 : u.heap.size + 1 ≤ k := by simpa using hk1
      exact ((Below.heap_setCell _ _ _ _ (by show k ≠ w.heap.size + 1 + 1; omega)).trans (Below.heap_setCell _ _ _ _ (by show k ≠ w.heap.size + 1; omega))).trans ((set8_other y1 w.heap.size (.int .u8 h.k) (.int .u8 h.op) (.int .i64 h.pl) (.int .i64 h.n) (.string h.name) (.string h.arg) (.string h.exn) (.slice p0 l d0) k (by omega)).trans (HB2.out.block k hk2))
end Parse
end Go.Proofs.YtadpjkehflokcaaGreatDoor
