/- Plain facts on classes of bytes, spans and places: of no program. -/
import Derived.Lib.Bytealg
namespace Go.Proofs.YtggabjmfdnfckaaGreatDoor
namespace Chars

/-- The class of a byte, as the chapter has it. -/
def cls (c : Int) : Int :=
  if c = 32 ∨ c = 9 ∨ c = 10 then 1
  else if 48 ≤ c ∧ c ≤ 57 then 2
  else if 97 ≤ c ∧ c ≤ 122 then 3
  else if 65 ≤ c ∧ c ≤ 90 then 4
  else if c ∈ [40, 41, 44, 33, 58, 61, 62, 43, 45, 42, 60, 59] then 5
  else 0

theorem cls_le (c : Int) : 0 ≤ cls c ∧ cls c ≤ 5 := by
  unfold cls; repeat' split
  all_goals omega

/-- Where a byte first stands in a text, or -1. -/
def ix (l : List UInt8) (c : Int) : Int := Lib.indexByte l c.toNat.toUInt8

theorem nonneg_iff (l : List UInt8) (c : UInt8) : 0 ≤ Lib.indexByte l c ↔ c ∈ l := by
  induction l with
  | nil => simp [Lib.indexByte]
  | cons b l ih =>
    unfold Lib.indexByte
    by_cases h : b = c
    · simp [h]
    · have h' : ¬ c = b := fun e => h e.symm
      simp only [beq_iff_eq, h, if_false, List.mem_cons, h', false_or, ← ih]
      have := Lib.indexByte_ge l c
      split <;> omega

theorem byte_eq (c : Int) (h0 : 0 ≤ c) (h1 : c ≤ 255) (k : Nat) (hk : k < 256) : c.toNat.toUInt8 = UInt8.ofNat k ↔ c = k := by
  rw [← UInt8.toNat_inj]
  simp
  omega

theorem blank_iff (c : Int) (h0 : 0 ≤ c) (h1 : c ≤ 255) : 0 ≤ ix [32, 9, 10] c ↔ (c = 32 ∨ c = 9 ∨ c = 10) := by
  unfold ix
  rw [nonneg_iff]
  simp only [List.mem_cons, List.not_mem_nil, or_false]
  have e := byte_eq c h0 h1
  have e1 := e 32 (by omega); have e2 := e 9 (by omega); have e3 := e 10 (by omega)
  simp only [UInt8.reduceOfNat] at e1 e2 e3
  rw [e1, e2, e3]
  rfl

theorem sign_iff (c : Int) (h0 : 0 ≤ c) (h1 : c ≤ 255) : 0 ≤ ix [40, 41, 44, 33, 58, 61, 62, 43, 45, 42, 60, 59] c ↔ c ∈ [40, 41, 44, 33, 58, 61, 62, 43, 45, 42, 60, 59] := by
  unfold ix
  rw [nonneg_iff]
  simp only [List.mem_cons, List.not_mem_nil, or_false]
  have e := byte_eq c h0 h1
  have e1 := e 40 (by omega); have e2 := e 41 (by omega); have e3 := e 44 (by omega); have e4 := e 33 (by omega)
  have e5 := e 58 (by omega); have e6 := e 61 (by omega); have e7 := e 62 (by omega); have e8 := e 43 (by omega)
  have e9 := e 45 (by omega); have e10 := e 42 (by omega); have e11 := e 60 (by omega); have e12 := e 59 (by omega)
  simp only [UInt8.reduceOfNat] at e1 e2 e3 e4 e5 e6 e7 e8 e9 e10 e11 e12
  rw [e1, e2, e3, e4, e5, e6, e7, e8, e9, e10, e11, e12]
  rfl

end Chars
end Go.Proofs.YtggabjmfdnfckaaGreatDoor
