/- The document's example; what is too great. -/
import Derived.Test.YtggabjmfdnfckaaGreatDoorEfText
namespace Go.Proofs.YtggabjmfdnfckaaGreatDoor
open Go.RowKit
set_option linter.unusedVariables false
set_option linter.unusedSimpArgs false
namespace Effect

def exP : At := ⟨2, 1, ⟨#[]⟩⟩
def exG : At := ⟨1, 2, ⟨#[]⟩⟩
def exText : ByteArray := ⟨#[103, 101, 116, 32, 50, 32, 44, 32, 112, 117, 116, 32, 49]⟩
theorem ex_of : ofA [exP, exG] = [exG, exP] := by decide +kernel
theorem ex_of2 : ofA [exG, exP] = [exG, exP] := by decide +kernel
theorem dig1 : digs 1 = ⟨#[49]⟩ := by
  unfold digs Lib.itoa
  rw [if_neg (by omega), Lib.decDigits_one (by decide)]; rfl
theorem dig2 : digs 2 = ⟨#[50]⟩ := by
  unfold digs Lib.itoa
  rw [if_neg (by omega), Lib.decDigits_one (by decide)]; rfl
theorem ex_text : textE [exG, exP] = exText := by
  unfold textE
  rw [if_neg (by simp)]
  have h1 : textA exG = ⟨#[103, 101, 116, 32, 50]⟩ := by unfold textA exG; rw [if_pos rfl, dig2]; decide +kernel
  have h2 : textA exP = ⟨#[112, 117, 116, 32, 49]⟩ := by unfold textA exP; rw [if_neg (by decide), if_pos rfl, dig1]; decide +kernel
  rw [List.map_cons, List.map_cons, List.map_nil, h1, h2]
  unfold joinT
  decide +kernel
theorem ex_sh : ∀ x ∈ ofA [exG, exP], Sh x := fun x hx => by
  rw [ex_of2] at hx
  simp at hx
  rcases hx with rfl | rfl <;> exact ⟨by decide, by decide, by decide⟩
theorem ex_at {W : World} {N : Nat} {ty : TypeId} (h : W.heap[N]? = some (.cells #[.int .u8 2, .int .i64 1, .string ⟨#[]⟩, .int .u8 1, .int .i64 2, .string ⟨#[]⟩] ty (0, 0))) : AtsAt W (some ⟨N, 0, none⟩) [exP, exG] := by
  refine .inr ⟨N, 0, rfl, fun i hi => ?_⟩
  match i, hi with
  | 0, _ => simp [World.cell?, h, aget, exP]
  | 1, _ => simp [World.cell?, h, aget, exG]
set_option maxRecDepth 100000 in
set_option maxHeartbeats 6400000 in
theorem awake_walk (w : World) (hl : NumLaid w) : Calls Tryz.prog 6 #[] w fun e w' => e = .returned (.bool true) ∧ Below w.heap.size w w' := by
  have HL := Lib.hid hl
  have HC := Lib.hid fun (ty : TypeId) => ofR (c := 2) (l := [exP, exG]) (n := 2) (a := some ⟨w.heap.size, 0, none⟩) (w := w.alloc (.cells #[.int .u8 2, .int .i64 1, .string ⟨#[]⟩, .int .u8 1, .int .i64 2, .string ⟨#[]⟩] ty)) ⟨rfl, ex_at (heap_alloc_new w _), fun x hx => by simp at hx; rcases hx with rfl | rfl <;> decide⟩ (by omega)
  clear hl
  go_enter Tryz.func6, Tryz.ntmps6
  go_wp2_with (fail)
  refine (HC.out _).mono ?_
  rintro e w1 ⟨a1, m, c1, rfl, hm, -, hr1, hb1⟩
  have hm2 := hr1.len
  rw [ex_of] at hr1 hm2
  obtain rfl : m = 2 := hm2.symm
  have HR := Lib.hid hr1; have HB := Lib.hid (below_row (Below.refl _ _) hb1 (Nat.le_refl _))
  have HM := Lib.hid (may_walk (c := c1) hr1 (by omega))
  clear hr1 hb1 hm2 hm
  go_wp2_with (fail)
  refine HM.out.mono ?_
  rintro e w2 ⟨rfl, hb2⟩
  have HB2 := Lib.hid (below_then HB.out hb2 HB.out.size)
  have HT := Lib.hid (text_walk (c := c1) (HR.out.below hb2) (by omega) ex_sh (HL.out.below HB2.out))
  rw [show decide ([exG, exP] = ofA [exG, exP]) = true from decide_eq_true ex_of2.symm]
  clear hb2
  go_wp2_with (fail)
  refine HT.out.mono ?_
  rintro e w3 ⟨rfl, hb3⟩
  have HB3 := Lib.hid (below_then HB2.out hb3 HB2.out.size)
  clear hb3
  rw [ex_of2, ex_text]
  unfold exText
  go_wp2_with (fail)
  go_ret
  exact ⟨rfl, HB3.out⟩
/-! ### What is too great -/
def greatB (l : List At) : Bool := decide (100 < l.length) || l.any fun x => decide (100 < x.x.size)
set_option maxRecDepth 100000 in
set_option maxHeartbeats 6400000 in
theorem great_walk {n c : Nat} {a : Option Addr} {l : List At} {w : World} (h : Rd w n a l) (hn : n ≤ maxLen) : Calls Tryz.prog 16 #[.slice a n c] w fun e w' => e = .returned (.bool (greatB l)) ∧ w' = w := by
  have H := Lib.hid h
  clear h
  unfold maxLen at hn
  go_enter Tryz.func16, Tryz.ntmps16
  by_cases h100 : 100 < n
  · have hg : true = greatB l := by unfold greatB; rw [H.out.len, decide_eq_true h100]; rfl
    have HG := Lib.hid hg
    clear hg
    go_wp2_with (fail)
    go_ret
    exact ⟨ret_bool HG.out, rfl⟩
  · go_wp2_with (fail)
    go_loopw [3, 9] (fun _ i wr => ∃ j : Nat, j ≤ n ∧ i = .int .i64 (j : Int) ∧ Hid (wr = w) ∧ Hid ((l.take j).any (fun x => decide (100 < x.x.size)) = false)) (fun _ i _ => n - (intOf i).toNat)
    case atStart => exact ⟨0, Nat.zero_le _, rfl, Lib.hid rfl, Lib.hid (by simp)⟩
    case round =>
      obtain ⟨j, hj, rfl, HW, HA⟩ := hrel
      by_cases hlt : j < n
      · have hjl : j < l.length := by rw [H.out.len]; exact hlt
        obtain ⟨b, o, rfl, -, -, e2⟩ := H.out.at_.get j hjl
        rw [← HW.out] at e2
        have hx := H.out.ok _ (aget_mem hjl)
        have htk := at_take l j hjl
        have hmem : aget l j ∈ l := aget_mem hjl
        generalize aget l j = x at *
        have HTK := Lib.hid htk; have HMEM := Lib.hid hmem
        unfold maxLen at hx
        clear htk hmem hjl
        by_cases hbig : 100 < x.x.size
        · have hg : true = greatB l := by
            unfold greatB
            have : (l.any fun x => decide (100 < x.x.size)) = true := List.any_eq_true.2 ⟨x, HMEM.out, decide_eq_true hbig⟩
            rw [this]; simp
          have HG := Lib.hid hg
          clear hg
          go_wp2_with (fail)
          go_ret
          exact ⟨ret_bool HG.out, HW.out⟩
        · have HBIG := Lib.hid hbig
          go_wp2_with (fail)
          go_roundw
          case rel => exact ⟨j + 1, by omega, by go_num, HW, Lib.hid (by rw [HTK.out, List.any_append, HA.out]; simp; have := HBIG.out; omega)⟩
          case measure => simp [intOf]; omega
      · obtain rfl : j = n := by omega
        have hg : false = greatB l := by
          unfold greatB
          have := HA.out
          rw [List.take_of_length_le (by rw [H.out.len]; exact Nat.le_refl _)] at this
          rw [this, H.out.len, decide_eq_false h100]; rfl
        have HG := Lib.hid hg
        clear hg
        go_wp2_with (fail)
        go_ret
        exact ⟨ret_bool HG.out, HW.out⟩
theorem great_no {l : List At} (h : greatB l = false) : l.length ≤ 100 ∧ ∀ x ∈ l, x.x.size ≤ 100 := by
  unfold greatB at h
  rw [Bool.or_eq_false_iff] at h
  refine ⟨by have := of_decide_eq_false h.1; omega, fun x hx => ?_⟩
  have := List.any_eq_false.1 h.2 x hx
  simp at this
  omega
end Effect
end Go.Proofs.YtggabjmfdnfckaaGreatDoor
