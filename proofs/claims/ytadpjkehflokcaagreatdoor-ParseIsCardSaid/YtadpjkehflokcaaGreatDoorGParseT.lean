/-The document's parser: unary: when reading has failed. (Written by wip/tools/unary4.py.) The document's parser: every unary. -/
import Derived.Test.YtadpjkehflokcaaGreatDoorGParseU
import Derived.Deep.LoopGhost
import Derived.Test.YtadpjkehflokcaaGreatDoorGParseS
import Derived.Test.YtadpjkehflokcaaGreatDoorParseU5
import Derived.Test.YtadpjkehflokcaaGreatDoorParseU6
import Derived.Test.YtadpjkehflokcaaGreatDoorParseU7
namespace Go.Proofs.YtadpjkehflokcaaGreatDoor
open Go.RowKit
set_option linter.unusedVariables false
set_option linter.unusedSimpArgs false
namespace Parse
open Token (Tok tel ToksAt)
open Term (Tm Hd TmIs Flat tcells veil Reads HdOk Kids)
open Words (str_no str_yes)

set_option maxRecDepth 100000 in
set_option maxHeartbeats 51200000 in
theorem dun_bad (g n c : Nat) (ts : List Tok) (w : World) (i : Nat) (hs : i < n) :
    Calls Tryz.prog 117 #[.agg #[.slice (some ⟨g, 0, none⟩) n c, .int .i64 (i : Int), .bool true]] w (DEnd g n c (⟨i, true⟩, zeroT) w) := by
  have hb : ∀ A B C : Obj, Below w.heap.size w (((w.alloc A).alloc B).alloc C) := fun A B C => (((Below.refl _ _).alloc (Nat.le_refl _) _).alloc (by simp) _).alloc (by simp; omega) _
  have HB := Lib.hid hb
  clear hb
  go_enter Tryz.func117, Tryz.ntmps117
  go_wp2_with (fail)
  refine bodyPost_ret (v := .tuple #[.agg #[.slice (some ⟨g, 0, none⟩) n c, .int .i64 (i : Int), .bool true], .agg #[.int .u8 0, .int .u8 0, .int .i64 0, .int .i64 0, .string ⟨#[]⟩, .string ⟨#[]⟩, .string ⟨#[]⟩, .slice none 0 0]]) (by simp [results, Tryz.results117, go_sem]) rfl ⟨⟨0, 0, 0, 0, ⟨#[]⟩, ⟨#[]⟩, ⟨#[]⟩⟩, none, 0, 0, rfl, node0 _ (dhd_any (by omega) (by omega) (by omega) e_small e_small e_small) none, HB.out _ _ _⟩
end Parse
end Go.Proofs.YtadpjkehflokcaaGreatDoor
namespace Go.Proofs.YtadpjkehflokcaaGreatDoor
open Go.RowKit
set_option linter.unusedVariables false
set_option linter.unusedSimpArgs false
namespace Parse
open Token (Tok tel ToksAt)
open Term (Tm Hd TmIs)
theorem unaryD_walk (g n c : Nat) (ts : List Tok) (m : Nat) (hU : ∀ k, k ≤ m → DPart 117 (unaryF ts k) g n c ts) (hE : ∀ k, k ≤ m → DPart 24 (exprF ts k) g n c ts) : DPart 117 (unaryF ts (m + 1)) g n c ts := by
  intro w s R hR hs hF
  obtain ⟨i, b⟩ := s
  cases b with
  | true =>
    have e : unaryF ts (m + 1) ⟨i, true⟩ = some (⟨i, true⟩, zeroT) := by
      rw [unaryF]
      simp only [if_true]
    rw [e] at hF
    obtain rfl := Option.some.inj hF
    exact dun_bad g n c ts w i hs
  | false =>
    by_cases hx : preN (textOf ts i) < 4
    · exact unary_pre g n c ts m hU hE w i R hR hs hx hF
    · by_cases hw : textOf ts i = wRaise
      · exact dun_raise g n c ts m hU hE w i R hR hs hx hw hF
      · by_cases h1 : (tel ts i).k = 1
        · exact dun_num g n c ts m hU hE w i R hR hs hx hw h1 hF
        · by_cases h2 : (tel ts i).k = 2
          · exact dun_name g n c ts m hU hE w i R hR hs hx hw h2 hF
          · have e : unaryF ts (m + 1) ⟨i, false⟩ = (exprF ts m (wantF ts ⟨i, false⟩ wOpen)).bind (fun r =>
                if r.1.bad = true ∨ textOf ts r.1.i ≠ wComma then some (wantF ts r.1 wShut, r.2)
                else (exprF ts m ⟨r.1.i + 1, r.1.bad⟩).map fun q => (wantF ts q.1 wShut, node 3 (plA ts i) [r.2, q.2])) := by
              rw [unaryF]
              simp only [Bool.false_eq_true, if_false]
              rw [if_neg hx, if_neg hw, if_neg h1, if_neg h2]
            have hF' := hF
            rw [e] at hF'
            obtain ⟨r, hr, hr2⟩ := Option.bind_eq_some_iff.1 hF'
            by_cases hb : r.1.bad = true
            · rw [if_pos (.inl hb)] at hr2
              exact dun_paren_bad g n c ts m hU hE w i R hR hs hx hw h1 h2 r hr hb (Option.some.inj hr2).symm hF
            · have hb' : r.1.bad = false := by cases h : r.1.bad <;> simp_all
              by_cases hc : textOf ts r.1.i = wComma
              · rw [if_neg (by rw [hb', hc]; simp)] at hr2
                obtain ⟨v, hv, hv2⟩ := Option.map_eq_some_iff.1 hr2
                rw [hb'] at hv
                exact dun_pair g n c ts m hU hE w i R hR hs hx hw h1 h2 r hr hb' hc v hv hv2.symm hF
              · rw [if_pos (.inr hc)] at hr2
                exact dun_paren g n c ts m hU hE w i R hR hs hx hw h1 h2 r hr hb' hc (Option.some.inj hr2).symm hF
end Parse
end Go.Proofs.YtadpjkehflokcaaGreatDoor
