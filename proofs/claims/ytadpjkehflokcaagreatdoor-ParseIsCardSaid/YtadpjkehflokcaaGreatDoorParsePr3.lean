/- The program's Parse. -/
import Derived.Test.YtadpjkehflokcaaGreatDoorParsePr2
namespace Go.Proofs.YtadpjkehflokcaaGreatDoor
open Go.RowKit
set_option linter.unusedVariables false
set_option linter.unusedSimpArgs false
namespace Parse
open Token (Tok tel ToksAt BytesIn LexEnd lex endT tcells)
open Term (Tm Hd TmIs Kids ret_bool ret_i64 Reads veil Flat)

set_option maxRecDepth 100000 in
set_option maxHeartbeats 6400000 in
theorem parseProg_mid (p : Option Addr) (n d : Nat) (xs : List Int) (w : World) (hb : BytesIn w p n d xs) (hl : Words.Laid2 w) (hsm : xs.length ≤ 65536) (hmid : ∀ us, Token.lex xs 0 = .inr us → us.length ≤ 4000) :
    Calls Tryz.prog 6 #[.slice p n d] w (ProgRet (progRes xs) w) := by
  have hbx : ∀ A : Obj, Below w.heap.size w (w.alloc A) := fun A => (Below.refl _ _).alloc (Nat.le_refl _) A
  have hwh := fun A => wholeP_mid p n d xs (w.alloc A) (hb.below (hbx A)) (hl.below (hbx A)) hsm hmid
  have HWH := Lib.hid hwh
  clear hwh hbx hb hl hsm hmid
  go_enter Tryz.func6, Tryz.ntmps6
  go_wp2_with (fail)
  refine (HWH.out _).mono ?_
  rintro e w1 ⟨hbl, (⟨a, k, hres, rfl⟩ | ⟨es, t, qe, me, de, h, p1, l, d1, hres, rfl, hO, hT⟩)⟩
  · obtain ⟨hr, hB⟩ := one_box hbl
    obtain ⟨⟨b0, b1, b2, b3, b4, b5, b6, b7, bx⟩, f0, f1, f2, f3, f4, f5, f6, f7, fx⟩ := cells9' hr
    have rl := lt_of_block hr
    have H := Lib.hid (And.intro hres hB)
    clear hbl hr hres hB
    go_wp2_with (fail)
    refine bodyPost_ret (v := .tuple #[.agg #[.slice none 0 0, .int .u8 0, .int .u8 0, .int .i64 0, .int .i64 0, .string ⟨#[]⟩, .string ⟨#[]⟩, .string ⟨#[]⟩, .slice none 0 0], .int .i64 a, .int .i64 k]) (by simp [results, Tryz.results6, go_sem, rl, b0, b1, b2, b3, b4, b5, b6, b7, bx]) rfl ⟨H.out.2.trans (Below.set9 w _ _ (Nat.le_refl _) _ _ _ _ _ _ _ _ _), .inl ⟨a, k, H.out.1, rfl⟩⟩
  · obtain ⟨hr, hB⟩ := one_box hbl
    obtain ⟨⟨b0, b1, b2, b3, b4, b5, b6, b7, bx⟩, f0, f1, f2, f3, f4, f5, f6, f7, fx⟩ := cells9' hr
    have rl := lt_of_block hr
    have H := Lib.hid (And.intro hres (And.intro hB (And.intro hT hO)))
    clear hbl hr hres hB hT hO
    go_wp2_with (fail)
    refine bodyPost_ret (v := .tuple #[.agg #[.slice qe me de, .int .u8 h.k, .int .u8 h.op, .int .i64 h.pl, .int .i64 h.n, .string h.name, .string h.arg, .string h.exn, .slice p1 l d1], .int .i64 0, .int .i64 0]) (by simp [results, Tryz.results6, go_sem, rl, b0, b1, b2, b3, b4, b5, b6, b7, bx]) rfl
      ⟨H.out.2.1.trans (Below.set9 w _ _ (Nat.le_refl _) _ _ _ _ _ _ _ _ _), .inr ⟨es, t, qe, me, de, h, p1, l, d1, H.out.1, rfl, owns_low (owns_keep H.out.2.2.2 fun b hb1 hb2 => set9_other _ _ _ _ _ _ _ _ _ _ _ b (by simp at hb1; omega)) (by simp), H.out.2.2.1.reads' (fresh_box (N := w.heap.size) (by simp) (by simp) fun j hj _ => set9_other _ _ _ _ _ _ _ _ _ _ _ _ hj)⟩⟩
end Parse
end Go.Proofs.YtadpjkehflokcaaGreatDoor
