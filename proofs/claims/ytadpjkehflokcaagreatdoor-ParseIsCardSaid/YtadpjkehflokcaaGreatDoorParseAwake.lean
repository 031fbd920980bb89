/- The walk of layer 5's example. -/
import Derived.Test.YtadpjkehflokcaaGreatDoorGParseH
import Derived.Lib.SlBytesConst
namespace Go.Proofs.YtadpjkehflokcaaGreatDoor
open Go.RowKit
set_option linter.unusedVariables false
set_option linter.unusedSimpArgs false
namespace Parse
open Token (Tok tel ToksAt BytesIn LexEnd lex endT)
open Term (Tm Hd TmIs Kids ret_bool ret_i64 Reads veil Flat tcells tget)
open Chars (bytes_new Bytes)

def exXs : List Int := [102, 32, 120, 32, 43, 32, 49]
def exT : Tm := .node ⟨9, 1, 0, 0, ⟨#[]⟩, ⟨#[]⟩, ⟨#[]⟩⟩ [.node ⟨10, 0, 0, 0, ⟨#[]⟩, ⟨#[]⟩, ⟨#[]⟩⟩ [.node ⟨2, 0, 0, 0, ⟨#[102]⟩, ⟨#[]⟩, ⟨#[]⟩⟩ [], .node ⟨2, 0, 2, 0, ⟨#[120]⟩, ⟨#[]⟩, ⟨#[]⟩⟩ []], .node ⟨1, 0, 6, 1, ⟨#[]⟩, ⟨#[]⟩, ⟨#[]⟩⟩ []]
theorem ex_res : termRes exXs = .good exT := by kernel_rfl
theorem bytes_ex : Bytes exXs := by
  intro x hx
  simp [exXs] at hx
  omega
set_option maxRecDepth 10000 in
set_option maxHeartbeats 3200000 in
theorem awake_walk (w : World) (hl : Words.Laid2 w) : Calls Tryz.prog 5 #[] w fun e w' => e = .returned (.bool true) ∧ Below w.heap.size w w' := by
  have HL := Lib.hid hl; clear hl
  have kc := fun (w : World) (C : Array Value) (n c : Nat) => Lib.run_convert_bytes_const (P := Tryz.prog) w 22 5 C n c Tryz.underlying22 Tryz.underlying5
  go_enter Tryz.func5, Tryz.ntmps5
  go_wp2_with (fail)
  refine (parseTerm_walk _ 7 7 exXs _ ⟨rfl, Nat.le_refl _, by unfold maxLen; omega, bytes_new _ _ _ _ _ _ rfl rfl, bytes_ex⟩ (HL.out.below ((Below.refl _ _).alloc (Nat.le_refl _) _)) (by decide)).mono ?_
  rintro e w1 ⟨hbl, (⟨a, k, hres, rfl⟩ | ⟨t, h, p, l, d, hres, rfl, hT⟩)⟩
  · rw [ex_res] at hres; cases hres
  · rw [ex_res] at hres
    obtain rfl : exT = t := by injection hres
    have hT' := hT.reads' (Term.veil_reads _ _)
    obtain rfl : (⟨9, 1, 0, 0, ⟨#[]⟩, ⟨#[]⟩, ⟨#[]⟩⟩ : Hd) = h := hT'.head
    obtain rfl : 2 = l := hT'.len
    obtain ⟨b, o, q, c, rfl, _, c0, c1, c2, c3, c4, c5, c6, c7⟩ := hT'.kids.get 0 (by decide)
    obtain ⟨b', o', q', c', hp, _, d0, d1, d2, d3, d4, d5, d6, d7⟩ := hT'.kids.get 1 (by decide)
    obtain ⟨rfl, rfl⟩ : b = b' ∧ o = o' := by injection hp with hp; injection hp with h1 h2; exact ⟨h1, h2⟩
    have e0 : w1.cell? ⟨b, o, none⟩ = some (.int .u8 10) := by rw [show o + 0 * 8 = o from by omega] at c0; exact c0
    have e2 : w1.cell? ⟨b, o + 2, none⟩ = some (.int .i64 0) := by rw [show o + 0 * 8 + 2 = o + 2 from by omega] at c2; exact c2
    have g2 : w1.cell? ⟨b, o + 8 + 2, none⟩ = some (.int .i64 6) := by rw [show o + 1 * 8 + 2 = o + 8 + 2 from by omega] at d2; exact d2
    have g2' : w1.cell? ⟨b, o + 10, none⟩ = some (.int .i64 6) := by rw [show o + 1 * 8 + 2 = o + 10 from by omega] at d2; exact d2
    have hbl2 : b < w1.heap.size := World.block_lt_of_cell? w1 _ e0
    have hd := hT'.cap
    have hbw := ((Below.refl w.heap.size w).alloc (Nat.le_refl _) _).trans (hbl.mono (by simp : w.heap.size ≤ _))
    have HBW := Lib.hid hbw
    clear hbl hbw hT hT' hp hres c0 c1 c2 c3 c4 c5 c6 c7 d0 d1 d2 d3 d4 d5 d6 d7
    go_wp2_with (fail)
    go_ret
    exact ⟨rfl, HBW.out.alloc HBW.out.size _⟩
end Parse
end Go.Proofs.YtadpjkehflokcaaGreatDoor
