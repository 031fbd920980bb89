/-Plain facts on classes of bytes, spans and places: of no program. The walks of the program's class of a byte, and of the document's: each is 'cls', and the world stays. The walk of the document's class of a byte. Plain facts on lines and columns. The walks of slices.Index and slices.Contains over bytes: none turns the world. The walks of the program's span, and of the document's. The walk of the program's span, whole. Plain facts on keywords, names and numbers: of no program. Effects: mathematics: atoms, their order, the effect of atoms. (No program in it but for what a text of an exception is.) -/
import Derived.Lib.Bytealg
import Derived.Test.YtabegjpledammaaGreatDoorRows
import Derived.WalkKit
import Derived.WalkLawsBesides
import Derived.Lib.Walk
import Derived.Lib.Hide
import Derived.LoopTactic
import Derived.Outline
import Derived.Below
import Derived.WalkSmall
import Derived.Lib.BytesEntry
import Derived.IntWalk
import Derived.Deep.QuietTactic
import Derived.BigQuiet
import Derived.Deep.DeepFit
import Derived.Lib.SlBytesConst
import Derived.Lib.ItoaLen
import Derived.Lib.Strings
import Derived.Lib.ParseIntBCases
import Derived.Sort.Statements
namespace Go.Proofs.YtabegjpledammaaGreatDoor
namespace Chars

/-- The class of a byte, as the chapter has it. -/
def cls (c : Int) : Int :=
  if c = 32 ∨ c = 9 ∨ c = 10 then 1
  else if 48 ≤ c ∧ c ≤ 57 then 2
  else if 97 ≤ c ∧ c ≤ 122 then 3
  else if 65 ≤ c ∧ c ≤ 90 then 4
  else if c ∈ [40, 41, 44, 33, 58, 61, 62, 43, 45, 42, 60, 59] then 5
  else 0

/-- Where a byte first stands in a text, or -1. -/
def ix (l : List UInt8) (c : Int) : Int := Lib.indexByte l c.toNat.toUInt8

theorem nonneg_iff (l : List UInt8) (c : UInt8) : 0 ≤ Lib.indexByte l c ↔ c ∈ l := by
  induction l with
  | nil => simp [Lib.indexByte]
  | cons b l ih =>
    unfold Lib.indexByte
    by_cases h : b = c
    · simp [h]
    · have h' : ¬ c = b := fun e => h e.symm
      simp only [beq_iff_eq, h, if_false, List.mem_cons, h', false_or, ← ih]
      have := Lib.indexByte_ge l c
      split <;> omega

theorem byte_eq (c : Int) (h0 : 0 ≤ c) (h1 : c ≤ 255) (k : Nat) (hk : k < 256) : c.toNat.toUInt8 = UInt8.ofNat k ↔ c = k := by
  rw [← UInt8.toNat_inj]
  simp
  omega

theorem blank_iff (c : Int) (h0 : 0 ≤ c) (h1 : c ≤ 255) : 0 ≤ ix [32, 9, 10] c ↔ (c = 32 ∨ c = 9 ∨ c = 10) := by
  unfold ix
  rw [nonneg_iff]
  simp only [List.mem_cons, List.not_mem_nil, or_false]
  have e := byte_eq c h0 h1
  have e1 := e 32 (by omega); have e2 := e 9 (by omega); have e3 := e 10 (by omega)
  simp only [UInt8.reduceOfNat] at e1 e2 e3
  rw [e1, e2, e3]
  rfl

theorem sign_iff (c : Int) (h0 : 0 ≤ c) (h1 : c ≤ 255) : 0 ≤ ix [40, 41, 44, 33, 58, 61, 62, 43, 45, 42, 60, 59] c ↔ c ∈ [40, 41, 44, 33, 58, 61, 62, 43, 45, 42, 60, 59] := by
  unfold ix
  rw [nonneg_iff]
  simp only [List.mem_cons, List.not_mem_nil, or_false]
  have e := byte_eq c h0 h1
  have e1 := e 40 (by omega); have e2 := e 41 (by omega); have e3 := e 44 (by omega); have e4 := e 33 (by omega)
  have e5 := e 58 (by omega); have e6 := e 61 (by omega); have e7 := e 62 (by omega); have e8 := e 43 (by omega)
  have e9 := e 45 (by omega); have e10 := e 42 (by omega); have e11 := e 60 (by omega); have e12 := e 59 (by omega)
  simp only [UInt8.reduceOfNat] at e1 e2 e3 e4 e5 e6 e7 e8 e9 e10 e11 e12
  rw [e1, e2, e3, e4, e5, e6, e7, e8, e9, e10, e11, e12]
  rfl

end Chars
end Go.Proofs.YtabegjpledammaaGreatDoor
namespace Go.Proofs.YtabegjpledammaaGreatDoor
open Go.RowKit
namespace Chars

set_option maxRecDepth 100000 in
theorem sliteIndexByte (s : ByteArray) (c : Int) (w : World) :
    Calls Tryz.prog 142 #[.string s, .int .u8 c] w fun e w' => e = .returned (.int .i64 (ix s.data.toList c)) ∧ w = w' := by
  go_enter Tryz.func142, Tryz.ntmps142
  go_wp2
  rw [run_callFunc_extern Tryz.func146 (by kernel_rfl) (by kernel_rfl) (by kernel_rfl) (e := Extern.BytealgIndexByte.indexByte) (by kernel_rfl), Lib.run_indexByteString]
  change Oper.upon _ _ _ _ _ (Result.andThen (.ok (Value.int .i64 (ix s.data.toList c)) w) _)
  simp only [Result.andThen]
  rw [Oper.upon_value]
  go_wp2
  go_ret
  exact ⟨rfl, rfl⟩

theorem indexByte (s : ByteArray) (c : Int) (w : World) :
    Calls Tryz.prog 139 #[.string s, .int .u8 c] w fun e w' => e = .returned (.int .i64 (ix s.data.toList c)) ∧ w = w' := by
  go_enter Tryz.func139, Tryz.ntmps139
  go_wp2_with (go_at_call 142; refine (sliteIndexByte _ _ _).mono ?_; rintro e w' ⟨rfl, rfl⟩)
  go_ret
  exact ⟨rfl, rfl⟩

theorem class_walk (c : Int) (h0 : 0 ≤ c) (h1 : c ≤ 255) (w : World) :
    Calls Tryz.prog 132 #[.int .u8 c] w fun e w' => e = .returned (.int .u8 (cls c)) ∧ w = w' := by
  have hb := blank_iff c h0 h1
  have hs := sign_iff c h0 h1
  by_cases b : c = 32 ∨ c = 9 ∨ c = 10
  · have b' := hb.2 b
    have hc : cls c = 1 := by unfold cls; rw [if_pos b]
    have HC := Lib.hid hc
    clear hb hs hc b
    go_enter Tryz.func132, Tryz.ntmps132
    go_wp2_with (go_at_call 139; refine (indexByte _ _ _).mono ?_; rintro e w' ⟨rfl, rfl⟩)
    go_ret
    rw [HC.out]
    exact ⟨rfl, rfl⟩
  have b' : ¬ 0 ≤ ix [32, 9, 10] c := fun h => b (hb.1 h)
  by_cases d : 48 ≤ c ∧ c ≤ 57
  · have hc : cls c = 2 := by unfold cls; rw [if_neg b, if_pos d]
    have HC := Lib.hid hc
    clear hb hs hc b
    obtain ⟨d1, d2⟩ := d
    go_enter Tryz.func132, Tryz.ntmps132
    go_wp2_with (go_at_call 139; refine (indexByte _ _ _).mono ?_; rintro e w' ⟨rfl, rfl⟩)
    go_ret
    rw [HC.out]
    exact ⟨rfl, rfl⟩
  by_cases s : 97 ≤ c ∧ c ≤ 122
  · have hc : cls c = 3 := by unfold cls; rw [if_neg b, if_neg d, if_pos s]
    have HC := Lib.hid hc
    clear hb hs hc b
    obtain ⟨d1, d2⟩ := s
    have d3 : 48 ≤ c := by omega
    have d4 : ¬ c ≤ 57 := by omega
    clear d
    go_enter Tryz.func132, Tryz.ntmps132
    go_wp2_with (go_at_call 139; refine (indexByte _ _ _).mono ?_; rintro e w' ⟨rfl, rfl⟩)
    go_ret
    rw [HC.out]
    exact ⟨rfl, rfl⟩
  by_cases g : 65 ≤ c ∧ c ≤ 90
  · have hc : cls c = 4 := by unfold cls; rw [if_neg b, if_neg d, if_neg s, if_pos g]
    have HC := Lib.hid hc
    clear hb hs hc b
    obtain ⟨d1, d2⟩ := g
    have d3 : 48 ≤ c := by omega
    have d4 : ¬ c ≤ 57 := by omega
    have d5 : ¬ 97 ≤ c := by omega
    clear d s
    go_enter Tryz.func132, Tryz.ntmps132
    go_wp2_with (go_at_call 139; refine (indexByte _ _ _).mono ?_; rintro e w' ⟨rfl, rfl⟩)
    go_ret
    rw [HC.out]
    exact ⟨rfl, rfl⟩
  by_cases x : c ∈ [40, 41, 44, 33, 58, 61, 62, 43, 45, 42, 60, 59]
  · have x' := hs.2 x
    have hc : cls c = 5 := by unfold cls; rw [if_neg b, if_neg d, if_neg s, if_neg g, if_pos x]
    have HC := Lib.hid hc
    clear hb hs hc b x
    go_enter Tryz.func132, Tryz.ntmps132
    go_wp2_with (go_at_call 139; refine (indexByte _ _ _).mono ?_; rintro e w' ⟨rfl, rfl⟩)
    all_goals first | (exfalso; omega) | skip
    all_goals go_ret
    all_goals rw [HC.out]
    all_goals exact ⟨rfl, rfl⟩
  · have x' : ¬ 0 ≤ ix [40, 41, 44, 33, 58, 61, 62, 43, 45, 42, 60, 59] c := fun h => x (hs.1 h)
    have hc : cls c = 0 := by unfold cls; rw [if_neg b, if_neg d, if_neg s, if_neg g, if_neg x]
    have HC := Lib.hid hc
    clear hb hs hc b x
    go_enter Tryz.func132, Tryz.ntmps132
    go_wp2_with (go_at_call 139; refine (indexByte _ _ _).mono ?_; rintro e w' ⟨rfl, rfl⟩)
    all_goals first | (exfalso; omega) | skip
    all_goals go_ret
    all_goals rw [HC.out]
    all_goals exact ⟨rfl, rfl⟩
end Chars
end Go.Proofs.YtabegjpledammaaGreatDoor
namespace Go.Proofs.YtabegjpledammaaGreatDoor
open Go.RowKit
namespace Chars

def signs : List Int := [40, 41, 44, 33, 58, 61, 62, 43, 45, 42, 60, 59]
def sgn (k : Nat) : Int := signs.getD k 0
def signCells : Array Value := #[.int .u8 40, .int .u8 41, .int .u8 44, .int .u8 33, .int .u8 58, .int .u8 61, .int .u8 62, .int .u8 43, .int .u8 45, .int .u8 42, .int .u8 60, .int .u8 59]
theorem sign_cell (w : World) (t : Nat) (k : Nat) (hk : k < 12) : (w.alloc (.cells signCells t)).cell? ⟨w.heap.size, k, none⟩ = some (.int .u8 (sgn k)) := by
  unfold signCells sgn signs
  have : k = 0 ∨ k = 1 ∨ k = 2 ∨ k = 3 ∨ k = 4 ∨ k = 5 ∨ k = 6 ∨ k = 7 ∨ k = 8 ∨ k = 9 ∨ k = 10 ∨ k = 11 := by omega
  rcases this with rfl | rfl | rfl | rfl | rfl | rfl | rfl | rfl | rfl | rfl | rfl | rfl <;> simp [go_sem]
theorem sgn_mem (k : Nat) (hk : k < 12) : sgn k ∈ signs := by
  have : k = 0 ∨ k = 1 ∨ k = 2 ∨ k = 3 ∨ k = 4 ∨ k = 5 ∨ k = 6 ∨ k = 7 ∨ k = 8 ∨ k = 9 ∨ k = 10 ∨ k = 11 := by omega
  rcases this with rfl | rfl | rfl | rfl | rfl | rfl | rfl | rfl | rfl | rfl | rfl | rfl <;> decide
theorem mem_sgn (c : Int) (hc : c ∈ signs) : ∃ k, k < 12 ∧ sgn k = c := by
  unfold signs at hc
  simp only [List.mem_cons, List.not_mem_nil, or_false] at hc
  rcases hc with rfl | rfl | rfl | rfl | rfl | rfl | rfl | rfl | rfl | rfl | rfl | rfl
  · exact ⟨0, by omega, by decide⟩
  · exact ⟨1, by omega, by decide⟩
  · exact ⟨2, by omega, by decide⟩
  · exact ⟨3, by omega, by decide⟩
  · exact ⟨4, by omega, by decide⟩
  · exact ⟨5, by omega, by decide⟩
  · exact ⟨6, by omega, by decide⟩
  · exact ⟨7, by omega, by decide⟩
  · exact ⟨8, by omega, by decide⟩
  · exact ⟨9, by omega, by decide⟩
  · exact ⟨10, by omega, by decide⟩
  · exact ⟨11, by omega, by decide⟩
theorem ret_u8 {a b : Int} (h : a = b) : Ending.returned (.int .u8 a) = .returned (.int .u8 b) := by rw [h]

/-- Where the byte is no blank, no digit and no letter: the loop over the signs. -/
theorem refClass_sign (c : Int) (w : World) (b1 : (c == 32) = false) (b2 : (c == 9) = false) (b3 : (c == 10) = false)
    (hr : c < 48 ∨ (58 ≤ c ∧ c < 65) ∨ (91 ≤ c ∧ c < 97) ∨ 123 ≤ c) (hc : cls c = if c ∈ signs then 5 else 0) :
    Calls Tryz.prog 109 #[.int .u8 c] w fun e w' => e = .returned (.int .u8 (cls c)) ∧ Below w.heap.size w w' := by
  have hcell : ∀ t k, k < 12 → (w.alloc (.cells signCells t)).cell? ⟨w.heap.size, k, none⟩ = some (.int .u8 (sgn k)) := fun t k => sign_cell w t k
  unfold signCells at hcell
  have HC := Lib.hid hc; clear hc
  have HK := Lib.hid hcell; clear hcell
  rcases hr with r1 | ⟨r1, r2⟩ | ⟨r1, r2⟩ | r1
  all_goals
    go_enter Tryz.func109, Tryz.ntmps109
    go_wp2
    try clear r1
    try clear r2
    go_loop [4, 36] (fun _ i => ∃ k : Nat, k ≤ 12 ∧ i = .int .i64 k ∧ ∀ j, j < k → sgn j ≠ c) (fun _ i => 12 - (intOf i).toNat)
    case atStart => exact ⟨0, by omega, rfl, fun j hj => by omega⟩
    case round =>
      obtain ⟨k, hk, rfl, hn⟩ := hrel
      have HN := Lib.hid hn
      clear hn
      by_cases hlt : k < 12
      · have hk1 := HK.out 5 k hlt
        by_cases he : sgn k = c
        · have he' : (sgn k == c) = true := by simpa using he
          have HE := Lib.hid he; clear he
          go_wp2
          go_ret
          refine ⟨ret_u8 ?_, (Below.refl _ _).alloc (Nat.le_refl _) _⟩
          rw [HC.out, if_pos (by rw [← HE.out]; exact sgn_mem k hlt)]
        · have he' : (sgn k == c) = false := by simpa using he
          have HE := Lib.hid he; clear he
          go_wp2
          go_round
          case rel =>
            refine ⟨k + 1, by omega, by go_num, fun j hj => ?_⟩
            by_cases hjk : j = k
            · rw [hjk]; exact HE.out
            · exact HN.out j (by omega)
          case measure => simp [intOf]; omega
      · go_wp2
        go_ret
        refine ⟨ret_u8 ?_, (Below.refl _ _).alloc (Nat.le_refl _) _⟩
        rw [HC.out, if_neg (fun hm => by obtain ⟨j, hj, hs⟩ := mem_sgn c hm; exact HN.out j (by omega) hs)]

theorem refClass_walk (c : Int) (h0 : 0 ≤ c) (h1 : c ≤ 255) (w : World) :
    Calls Tryz.prog 109 #[.int .u8 c] w fun e w' => e = .returned (.int .u8 (cls c)) ∧ Below w.heap.size w w' := by
  by_cases b1 : c = 32
  · subst b1
    go_enter Tryz.func109, Tryz.ntmps109
    go_wp2
    go_ret
    exact ⟨rfl, Below.refl _ _⟩
  by_cases b2 : c = 9
  · subst b2
    go_enter Tryz.func109, Tryz.ntmps109
    go_wp2
    go_ret
    exact ⟨rfl, Below.refl _ _⟩
  by_cases b3 : c = 10
  · subst b3
    go_enter Tryz.func109, Tryz.ntmps109
    go_wp2
    go_ret
    exact ⟨rfl, Below.refl _ _⟩
  have b1' : (c == 32) = false := by simpa using b1
  have b2' : (c == 9) = false := by simpa using b2
  have b3' : (c == 10) = false := by simpa using b3
  have nb : ¬ (c = 32 ∨ c = 9 ∨ c = 10) := by omega
  by_cases d : 48 ≤ c ∧ c ≤ 57
  · have hc : cls c = 2 := by unfold cls; rw [if_neg nb, if_pos d]
    have HC := Lib.hid hc; clear hc
    obtain ⟨d1, d2⟩ := d
    clear nb b1 b2 b3
    go_enter Tryz.func109, Tryz.ntmps109
    go_wp2
    go_ret
    exact ⟨ret_u8 HC.out.symm, Below.refl _ _⟩
  by_cases s : 97 ≤ c ∧ c ≤ 122
  · have hc : cls c = 3 := by unfold cls; rw [if_neg nb, if_neg d, if_pos s]
    have HC := Lib.hid hc; clear hc
    obtain ⟨d1, d2⟩ := s
    clear nb b1 b2 b3 d
    go_enter Tryz.func109, Tryz.ntmps109
    go_wp2
    go_ret
    exact ⟨ret_u8 HC.out.symm, Below.refl _ _⟩
  by_cases g : 65 ≤ c ∧ c ≤ 90
  · have hc : cls c = 4 := by unfold cls; rw [if_neg nb, if_neg d, if_neg s, if_pos g]
    have HC := Lib.hid hc; clear hc
    obtain ⟨d1, d2⟩ := g
    clear nb b1 b2 b3 d s
    go_enter Tryz.func109, Tryz.ntmps109
    go_wp2
    go_ret
    exact ⟨ret_u8 HC.out.symm, Below.refl _ _⟩
  exact refClass_sign c w b1' b2' b3' (by omega) (by unfold cls; rw [if_neg nb, if_neg d, if_neg s, if_neg g]; rfl)
end Chars
end Go.Proofs.YtabegjpledammaaGreatDoor
namespace Go.Proofs.YtabegjpledammaaGreatDoor
namespace Chars

/-- Element i of a list, as a name of its own. -/
def el (xs : List Int) (i : Nat) : Int := xs.getD i 0
end Chars
end Go.Proofs.YtabegjpledammaaGreatDoor
namespace Go.Proofs.YtabegjpledammaaGreatDoor
open Go.RowKit
namespace Chars

/-- What a slice's cells hold: nothing is asked of an empty one. -/
def BytesAt (w : World) (p : Option Addr) (xs : List Int) : Prop :=
  xs = [] ∨ ∃ b o, p = some ⟨b, o, none⟩ ∧ ∀ i, i < xs.length → w.cell? ⟨b, o + i, none⟩ = some (.int .u8 (xs.getD i 0))

theorem BytesAt.get {w : World} {p : Option Addr} {xs : List Int} (h : BytesAt w p xs) (k : Nat) (hk : k < xs.length) :
    ∃ b o, p = some ⟨b, o, none⟩ ∧ ∀ i, i < xs.length → w.cell? ⟨b, o + i, none⟩ = some (.int .u8 (el xs i)) := by
  rcases h with rfl | h
  · simp at hk
  · exact h

theorem el_mem {xs : List Int} {i : Nat} (h : i < xs.length) : el xs i ∈ xs := by
  unfold el
  rw [List.getD_eq_getElem?_getD, List.getElem?_eq_getElem h]
  exact List.getElem_mem h
theorem mem_el {xs : List Int} {v : Int} (h : v ∈ xs) : ∃ i, i < xs.length ∧ el xs i = v := by
  obtain ⟨i, hi, e⟩ := List.getElem_of_mem h
  refine ⟨i, hi, ?_⟩
  unfold el
  rw [List.getD_eq_getElem?_getD, List.getElem?_eq_getElem hi]
  exact e

/-- Is v one of ys? -/
def isin (ys : List Int) (v : Int) : Bool := decide (v ∈ ys)

theorem ret_i64 {a b : Int} (h : a = b) : Ending.returned (.int .i64 a) = .returned (.int .i64 b) := by rw [h]
theorem ret_bool {a b : Bool} (h : a = b) : Ending.returned (.bool a) = .returned (.bool b) := by rw [h]

/-- An index of v in ys, or -1. -/
def IsIdx (ys : List Int) (v : Int) (e : Ending) : Prop := ∃ r : Int, e = .returned (.int .i64 r) ∧ (isin ys v = true → 0 ≤ r) ∧ (isin ys v = false → r < 0)

theorem index_walk (p : Option Addr) (n d : Nat) (ys : List Int) (v : Int) (w : World) (hn : ys.length = n) (hm : n ≤ maxLen) (hb : BytesAt w p ys) :
    Calls Tryz.prog 147 #[.slice p n d, .int .u8 v] w fun e w' => IsIdx ys v e ∧ w = w' := by
  unfold maxLen at hm
  have HB := Lib.hid hb; clear hb
  have HL := Lib.hid hn; clear hn
  go_enter Tryz.func147, Tryz.ntmps147
  go_wp2
  go_loop [5, 8] (fun _ i => ∃ k : Nat, k ≤ n ∧ i = .int .i64 k ∧ ∀ j, j < k → el ys j ≠ v) (fun _ i => n - (intOf i).toNat)
  case atStart => exact ⟨0, by omega, rfl, fun j hj => by omega⟩
  case round =>
    obtain ⟨k, hk, rfl, hn⟩ := hrel
    have HN := Lib.hid hn
    clear hn
    by_cases hlt : k < n
    · obtain ⟨b, o, rfl, hc⟩ := HB.out.get k (by rw [HL.out]; exact hlt)
      have hck := hc k (by rw [HL.out]; exact hlt)
      clear hc
      by_cases he : el ys k = v
      · have he' : (v == el ys k) = true := by rw [he]; simp
        have HE := Lib.hid he; clear he
        go_wp2
        go_ret
        refine ⟨⟨k, rfl, fun _ => by omega, fun h => ?_⟩, rfl⟩
        exfalso
        unfold isin at h
        have : v ∈ ys := by rw [← HE.out]; exact el_mem (by rw [HL.out]; exact hlt)
        simp [this] at h
      · have he' : (v == el ys k) = false := by simpa using fun h => he h.symm
        have HE := Lib.hid he; clear he
        go_wp2
        go_round
        case rel =>
          refine ⟨k + 1, by omega, by go_num, fun j hj => ?_⟩
          by_cases hjk : j = k
          · rw [hjk]; exact HE.out
          · exact HN.out j (by omega)
        case measure => simp [intOf]; omega
    · go_wp2
      go_ret
      refine ⟨⟨-1, rfl, fun h => ?_, fun h => by omega⟩, rfl⟩
      exfalso
      unfold isin at h
      obtain ⟨j, hj, hs⟩ := mem_el (of_decide_eq_true h)
      have hl := HL.out
      exact HN.out j (by omega) hs

theorem contains_walk (p : Option Addr) (n d : Nat) (ys : List Int) (v : Int) (w : World) (hn : ys.length = n) (hm : n ≤ maxLen) (hb : BytesAt w p ys) :
    Calls Tryz.prog 145 #[.slice p n d, .int .u8 v] w fun e w' => e = .returned (.bool (isin ys v)) ∧ w = w' := by
  have HB := Lib.hid hb; clear hb
  have HL := Lib.hid hn; clear hn
  go_enter Tryz.func145, Tryz.ntmps145
  go_wp2_with (fail)
  refine (index_walk p n d ys v w HL.out hm HB.out).mono ?_
  rintro e w' ⟨⟨r, rfl, h1, h2⟩, rfl⟩
  have H1 := Lib.hid h1; have H2 := Lib.hid h2; clear h1 h2
  go_wp2
  go_ret
  refine ⟨ret_bool ?_, rfl⟩
  have h1 := H1.out; have h2 := H2.out
  cases hi : isin ys v
  · have := h2 hi; simp; omega
  · have := h1 hi; simp; omega
end Chars
end Go.Proofs.YtabegjpledammaaGreatDoor
namespace Go.Proofs.YtabegjpledammaaGreatDoor
open Go.RowKit
namespace Chars

theorem below_draws {B : Nat} {a w : World} (h : Below B a w) (q : Nat) : Below B a (w.drewN q) := ⟨h.os, h.tape, h.output, h.size, h.block⟩

theorem BytesAt.below {w W : World} {p : Option Addr} {xs : List Int} (h : BytesAt w p xs) (hb : Below w.heap.size w W) : BytesAt W p xs := by
  rcases h with rfl | ⟨b, o, hp, hc⟩
  · exact .inl rfl
  · refine .inr ⟨b, o, hp, fun i hi => ?_⟩
    have hl : b < w.heap.size := World.block_lt_of_cell? w _ (hc i hi)
    exact (hb.cell (p := ⟨b, o + i, none⟩) hl).trans (hc i hi)

/-- The closure of the program's span: is a byte's class one of those that its box holds? -/
theorem closure_walk (c : Int) (h0 : 0 ≤ c) (h1 : c ≤ 255) (B : Nat) (q : Option Addr) (m d : Nat) (ys : List Int) (w : World)
    (hbox : w.cell? ⟨B, 0, none⟩ = some (.slice q m d)) (hy : ys.length = m) (hm : m ≤ maxLen) (hq : BytesAt w q ys) :
    Calls Tryz.prog 144 #[.int .u8 c, .pointer (some ⟨B, 0, none⟩)] w fun e w' => e = .returned (.bool (isin ys (cls c))) ∧ ∃ n, w' = w.drewN n := by
  have HY := Lib.hid hy; clear hy
  have hcl := fun W => class_walk c h0 h1 W
  go_enter Tryz.func144, Tryz.ntmps144
  go_wp2
  go_quiet ((first | (go_at_call 132; exact Calls.quiet_of_same ((hcl _).mono fun _ _ h => ⟨h.1, h.2.symm⟩)) | (go_at_call 145; exact Calls.quiet_of_same ((contains_walk _ _ _ ys _ _ HY.out hm (hq.below (below_draws (Below.refl _ _) _))).mono fun _ _ h => ⟨h.1, h.2.symm⟩))))
  go_wp2
  go_ret
  exact ⟨rfl, _, rfl⟩
/-- How many elements, one behind the other from the first one on, are of one of the classes ys. -/
def run (ys xs : List Int) : Nat := (xs.takeWhile fun c => isin ys (cls c)).length

theorem run_le (ys xs : List Int) : run ys xs ≤ xs.length := (List.takeWhile_sublist _).length_le

theorem run_stop (ys : List Int) : ∀ (xs : List Int) (k : Nat), k < xs.length → (∀ j, j < k → isin ys (cls (el xs j)) = true) → isin ys (cls (el xs k)) = false → run ys xs = k
  | [], k, hk, _, _ => by simp at hk
  | x :: xs, 0, _, _, h => by
    have h' : isin ys (cls x) = false := h
    simp [run, h']
  | x :: xs, k + 1, hk, ha, h => by
    have h' : isin ys (cls x) = true := ha 0 (by omega)
    have ih := run_stop ys xs k (by simpa using hk) (fun j hj => ha (j + 1) (by omega)) h
    unfold run at ih ⊢
    simp [h', ih]

theorem run_all (ys : List Int) : ∀ (xs : List Int), (∀ j, j < xs.length → isin ys (cls (el xs j)) = true) → run ys xs = xs.length
  | [], _ => rfl
  | x :: xs, ha => by
    have h' : isin ys (cls x) = true := ha 0 (by simp)
    have ih := run_all ys xs (fun j hj => ha (j + 1) (by simpa using hj))
    unfold run at ih ⊢
    simp [h', ih]

def Bytes (xs : List Int) : Prop := ∀ x ∈ xs, 0 ≤ x ∧ x ≤ 255
theorem Bytes.el {xs : List Int} (h : Bytes xs) {k : Nat} (hk : k < xs.length) : 0 ≤ Chars.el xs k ∧ Chars.el xs k ≤ 255 := h _ (el_mem hk)

set_option maxHeartbeats 400000 in
theorem lead_walk (p : Option Addr) (n d : Nat) (xs : List Int) (B : Nat) (q : Option Addr) (m d2 : Nat) (ys : List Int) (w : World)
    (hx : xs.length = n) (hn : n ≤ maxLen) (hp : BytesAt w p xs) (hr : Bytes xs)
    (hbox : w.cell? ⟨B, 0, none⟩ = some (.slice q m d2)) (hy : ys.length = m) (hm : m ≤ maxLen) (hq : BytesAt w q ys) :
    Calls Tryz.prog 143 #[.slice p n d, .func (.func 144) #[] #[.pointer (some ⟨B, 0, none⟩)]] w fun e w' => e = .returned (.int .i64 (run ys xs)) ∧ Below w.heap.size w w' := by
  have hclo := fun (W : World) (hb : Below w.heap.size w W) (c : Int) (h0 : 0 ≤ c) (h1 : c ≤ 255) =>
    closure_walk c h0 h1 B q m d2 ys W ((hb.cell (p := ⟨B, 0, none⟩) (World.block_lt_of_cell? w _ hbox)).trans hbox) hy hm (hq.below hb)
  have HCLO := Lib.hid hclo
  have HX := Lib.hid hx
  have HP := Lib.hid hp
  have HR := Lib.hid hr
  clear hclo hx hp hr hbox hy hm hq
  unfold maxLen at hn
  go_enter Tryz.func143, Tryz.ntmps143
  go_wp2
  go_loopw [5, 6, 9] (fun _ _ i wr => ∃ k : Nat, k ≤ n ∧ i = .int .i64 k ∧ (∀ j, j < k → isin ys (cls (el xs j)) = true) ∧ Below w.heap.size w wr) (fun _ _ i _ => n - (intOf i).toNat)
  case atStart => exact ⟨0, by omega, rfl, fun j hj => by omega, Below.refl _ _⟩
  case round =>
    obtain ⟨k, hk, rfl, ha, hb⟩ := hrel
    have HA := Lib.hid ha
    have HB := Lib.hid hb
    clear ha hb
    by_cases hlt : k < n
    · have hk' : k < xs.length := by rw [HX.out]; exact hlt
      obtain ⟨b, o, rfl, hc⟩ := (HP.out.below HB.out).get k hk'
      have hck := hc k hk'
      clear hc
      have hel := HR.out.el hk'
      have HE0 := Lib.hid hel.1
      have HE1 := Lib.hid hel.2
      clear hel hk'
      go_wp2_with (fail)
      refine (HCLO.out _ HB.out _ HE0.out HE1.out).mono ?_
      rintro e w' ⟨rfl, q', rfl⟩
      cases ht : isin ys (cls (el xs k))
      · have HT := Lib.hid ht
        clear ht
        go_wp2
        go_ret
        refine ⟨ret_i64 ?_, below_draws HB.out _⟩
        rw [run_stop ys xs k (by rw [HX.out]; exact hlt) HA.out HT.out]
      · have HT := Lib.hid ht
        clear ht
        go_wp2
        go_roundw
        case rel =>
          refine ⟨k + 1, by omega, by go_num, fun j hj => ?_, below_draws HB.out _⟩
          by_cases hjk : j = k
          · rw [hjk]; exact HT.out
          · exact HA.out j (by omega)
        case measure => simp [intOf]; omega
    · go_wp2
      go_ret
      refine ⟨ret_i64 ?_, HB.out⟩
      have hx := HX.out
      have : k = n := by omega
      rw [run_all ys xs (fun j hj => HA.out j (by omega)), hx]
end Chars
end Go.Proofs.YtabegjpledammaaGreatDoor
namespace Go.Proofs.YtabegjpledammaaGreatDoor
open Go.RowKit
namespace Chars

/-- How many bytes of xs, from the place at on, are of one of the classes ys. -/
def spanI (ys xs : List Int) (at' : Int) : Int := if 0 ≤ at' ∧ at' < xs.length then (run ys (xs.drop at'.toNat) : Nat) else 0

theorem el_drop (xs : List Int) (k i : Nat) : el (xs.drop k) i = el xs (k + i) := by
  unfold el
  simp

theorem BytesAt.drop {w : World} {b o : Nat} {xs : List Int} (h : ∀ i, i < xs.length → w.cell? ⟨b, o + i, none⟩ = some (.int .u8 (el xs i))) (k : Nat) :
    BytesAt w (some ⟨b, o + k, none⟩) (xs.drop k) := by
  refine .inr ⟨b, o + k, rfl, fun i hi => ?_⟩
  have h' := h (k + i) (by simp at hi; omega)
  rw [show o + k + i = o + (k + i) from by omega, h']
  show _ = some (Value.int .u8 (el (xs.drop k) i))
  rw [el_drop]

theorem Bytes.drop {xs : List Int} (h : Bytes xs) (k : Nat) : Bytes (xs.drop k) := fun x hx => h x (List.mem_of_mem_drop hx)

set_option maxHeartbeats 400000 in
theorem span_walk (p : Option Addr) (n d : Nat) (xs : List Int) (a : Int) (q : Option Addr) (m d2 : Nat) (ys : List Int) (w : World)
    (hx : xs.length = n) (hnd : n ≤ d) (hd : d ≤ maxLen) (hp : BytesAt w p xs) (hr : Bytes xs) (hy : ys.length = m) (hm : m ≤ maxLen) (hq : BytesAt w q ys) :
    Calls Tryz.prog 140 #[.slice p n d, .int .i64 a, .slice q m d2] w fun e w' => e = .returned (.int .i64 (spanI ys xs a)) ∧ Below w.heap.size w w' := by
  have hmf : ∀ (fn : Fn) (first cap : Array Value) (w : World), (Instr.makeFunc fn first cap).run Tryz.prog w = .ok (.func fn first cap) w := fun _ _ _ _ => rfl
  unfold maxLen at hd hm
  have HX := Lib.hid hx
  have HP := Lib.hid hp
  have HR := Lib.hid hr
  have HY := Lib.hid hy
  have HQ := Lib.hid hq
  clear hx hp hr hy hq
  have hw : Below w.heap.size w (w.alloc (.cells #[.slice q m d2] 77)) := (Below.refl _ _).alloc (Nat.le_refl _) _
  have HW := Lib.hid hw; clear hw
  by_cases h0 : a < 0
  · have hs : spanI ys xs a = 0 := by unfold spanI; rw [if_neg (by omega)]
    have HS := Lib.hid hs; clear hs
    go_enter Tryz.func140, Tryz.ntmps140
    go_wp2
    go_ret
    exact ⟨ret_i64 HS.out.symm, (Below.refl _ _).alloc (Nat.le_refl _) _⟩
  by_cases h1 : (n : Int) ≤ a
  · have hs : spanI ys xs a = 0 := by unfold spanI; rw [if_neg (by rw [HX.out]; omega)]
    have HS := Lib.hid hs; clear hs
    go_enter Tryz.func140, Tryz.ntmps140
    go_wp2
    go_ret
    exact ⟨ret_i64 HS.out.symm, (Below.refl _ _).alloc (Nat.le_refl _) _⟩
  · obtain ⟨k, rfl⟩ := Int.eq_ofNat_of_zero_le (by omega : 0 ≤ a)
    have hk : k < n := by omega
    have hs : spanI ys xs k = (run ys (xs.drop k) : Nat) := by unfold spanI; rw [if_pos (by rw [HX.out]; omega), Int.toNat_natCast]
    have HS := Lib.hid hs; clear hs
    obtain ⟨b, o, rfl, hc⟩ := (HP.out.below HW.out).get k (by rw [HX.out]; exact hk)
    have HC := Lib.hid hc; clear hc
    clear h0 h1
    go_enter Tryz.func140, Tryz.ntmps140
    go_wp2_with (fail)
    refine (lead_walk (some ⟨b, o + k, none⟩) (n - k) (d - k) (xs.drop k) w.heap.size q m d2 ys _ ?_ ?_ ?_ (HR.out.drop k) ?_ HY.out ?_ (HQ.out.below HW.out)).mono ?_
    · rw [List.length_drop, HX.out]
    · unfold maxLen; omega
    · exact BytesAt.drop HC.out k
    · simp
    · unfold maxLen; omega
    rintro e w' ⟨rfl, hb⟩
    have HB := Lib.hid hb; clear hb
    go_wp2
    go_ret
    exact ⟨ret_i64 HS.out.symm, HW.out.trans (HB.out.mono HW.out.size)⟩
/-- A slice of bytes that the call has just laid. -/
theorem bytes_new (w : World) (n : Nat) (cs : Array Value) (t : TypeId) (fr : Nat × Nat) (xs : List Int) (hn : n = w.heap.size) (h : cs = (xs.map fun x => Value.int .u8 x).toArray) : BytesAt (w.alloc (.cells cs t fr)) (some ⟨n, 0, none⟩) xs := by
  subst hn h
  refine .inr ⟨w.heap.size, 0, rfl, fun i hi => ?_⟩
  rw [Nat.zero_add, World.cell?_alloc_mark]
  simp [hi]
end Chars
end Go.Proofs.YtabegjpledammaaGreatDoor
namespace Go.Proofs.YtabegjpledammaaGreatDoor
namespace Words
open Chars (cls el isin run Bytes)

/-! ### Keywords -/
theorem bytes_ext {s t : ByteArray} (h : s.data.toList = t.data.toList) : s = t := by
  cases s; cases t
  simp at h
  simp [h]
/-! ### Names -/
/-- The bytes of a text as numbers. -/
def ints (l : List UInt8) : List Int := l.map fun c => (c.toNat : Int)
theorem ints_length (l : List UInt8) : (ints l).length = l.length := by simp [ints]
theorem ints_bytes (l : List UInt8) : Bytes (ints l) := by
  intro x hx
  simp only [ints, List.mem_map] at hx
  obtain ⟨c, _, rfl⟩ := hx
  have := c.toNat_lt
  omega
theorem el_ints (l : List UInt8) (k : Nat) (hk : k < l.length) : el (ints l) k = ((l[k]).toNat : Int) := by
  unfold el ints
  rw [List.getD_eq_getElem?_getD]
  simp [hk]

/-- One of the class f, then letters and digits: at most 16. -/
def wordB (f : Int) (xs : List Int) : Bool := decide (xs ≠ [] ∧ xs.length ≤ 16 ∧ cls (el xs 0) = f ∧ ∀ x ∈ xs, isin [3, 4, 2] (cls x) = true)
theorem wordB_nil (f : Int) : wordB f [] = false := by simp [wordB]
theorem wordB_long {f : Int} {xs : List Int} (h : ¬ xs.length ≤ 16) : wordB f xs = false := by
  unfold wordB; exact decide_eq_false fun ⟨_, h1, _, _⟩ => h h1
theorem wordB_first {f : Int} {xs : List Int} (h : cls (el xs 0) ≠ f) : wordB f xs = false := by
  unfold wordB; exact decide_eq_false fun ⟨_, _, h1, _⟩ => h h1
theorem wordB_some {f : Int} {xs : List Int} {k : Nat} (hk : k < xs.length) (h : isin [3, 4, 2] (cls (el xs k)) = false) : wordB f xs = false := by
  unfold wordB
  refine decide_eq_false fun ⟨_, _, _, h1⟩ => ?_
  have := h1 _ (Chars.el_mem hk)
  rw [h] at this
  cases this
/-- Is each of the classes ys? -/
def allB (ys xs : List Int) : Bool := decide (∀ x ∈ xs, isin ys (cls x) = true)
theorem run_iff (ys : List Int) : ∀ xs : List Int, run ys xs = xs.length ↔ ∀ x ∈ xs, isin ys (cls x) = true
  | [] => by simp [run]
  | x :: xs => by
    have ih := run_iff ys xs
    have hle := Chars.run_le ys xs
    unfold run at ih hle ⊢
    cases hx : isin ys (cls x)
    · simp [hx]
    · simp only [List.takeWhile_cons, hx, if_true, List.length_cons, List.mem_cons, forall_eq_or_imp, true_and]
      rw [← ih]
      omega
theorem run_allB (ys xs : List Int) : ((run ys xs : Int) == (xs.length : Int)) = allB ys xs := by
  rw [Bool.eq_iff_iff]
  unfold allB
  rw [decide_eq_true_iff, ← run_iff]
  simp
  omega
theorem wordB_of_allB (f : Int) (xs : List Int) (h0 : xs ≠ []) (h1 : xs.length ≤ 16) (h2 : cls (el xs 0) = f) : wordB f xs = allB [3, 4, 2] xs := by
  unfold wordB allB
  rw [decide_eq_decide]
  exact ⟨fun h => h.2.2.2, fun h => ⟨h0, h1, h2, h⟩⟩

def exnB (s : ByteArray) : Bool := wordB 4 (ints s.data.toList)

/-! ### Numbers -/
/-! ### A number's digits -/
end Words
end Go.Proofs.YtabegjpledammaaGreatDoor
namespace Go.Proofs.YtabegjpledammaaGreatDoor
set_option linter.unusedVariables false
namespace Effect

/-- An atom: its kind, its region, its exception. -/
structure At where
  k : Int
  r : Int
  x : ByteArray
deriving DecidableEq
instance : Inhabited At := ⟨⟨0, 0, ByteArray.empty⟩⟩
/-- Which of two texts is ahead. -/
def lessS (a b : ByteArray) : Bool := Op.bytesLess a.toList b.toList
theorem less_irrefl : ∀ l : List UInt8, Op.bytesLess l l = false
  | [] => rfl
  | a :: l => by
    show (decide (a < a) || (a == a && Op.bytesLess l l)) = false
    rw [less_irrefl l]; simp
theorem less_trans : ∀ l m k : List UInt8, Op.bytesLess l m = true → Op.bytesLess m k = true → Op.bytesLess l k = true
  | _, [], _, h, _ => by cases ‹List UInt8› <;> simp [Op.bytesLess] at h
  | _, _ :: _, [], _, h => by simp [Op.bytesLess] at h
  | [], _ :: _, _ :: _, _, _ => rfl
  | a :: l, b :: m, c :: k, h1, h2 => by
    simp only [Op.bytesLess, Bool.or_eq_true, Bool.and_eq_true, decide_eq_true_eq, beq_iff_eq] at h1 h2 ⊢
    rcases h1 with h1 | ⟨rfl, h1⟩
    · rcases h2 with h2 | ⟨rfl, h2⟩
      · exact .inl (UInt8.lt_trans h1 h2)
      · exact .inl h1
    · rcases h2 with h2 | ⟨rfl, h2⟩
      · exact .inl h2
      · exact .inr ⟨rfl, less_trans l m k h1 h2⟩
theorem less_total : ∀ l m : List UInt8, Op.bytesLess l m = false → Op.bytesLess m l = false → l = m
  | [], [], _, _ => rfl
  | [], _ :: _, h, _ => by simp [Op.bytesLess] at h
  | _ :: _, [], _, h => by simp [Op.bytesLess] at h
  | a :: l, b :: m, h1, h2 => by
    simp only [Op.bytesLess, Bool.or_eq_false_iff, Bool.and_eq_false_iff, decide_eq_false_iff_not] at h1 h2
    have e : a = b := UInt8.le_antisymm (UInt8.not_lt.1 h2.1) (UInt8.not_lt.1 h1.1)
    subst e
    rw [less_total l m (h1.2.resolve_left (by simp)) (h2.2.resolve_left (by simp))]
theorem toList_inj {a b : ByteArray} (h : a.toList = b.toList) : a = b := by
  rw [Lib.toList_data, Lib.toList_data] at h
  cases a; cases b; simpa using h
theorem lessS_irrefl (a : ByteArray) : lessS a a = false := less_irrefl _
theorem lessS_trans {a b c : ByteArray} (h1 : lessS a b = true) (h2 : lessS b c = true) : lessS a c = true := less_trans _ _ _ h1 h2
theorem lessS_total {a b : ByteArray} (h1 : lessS a b = false) (h2 : lessS b a = false) : a = b := toList_inj (less_total _ _ h1 h2)
/-- Which of two atoms is ahead. -/
def lessA (a b : At) : Bool := if a.k = b.k then (if a.r = b.r then lessS a.x b.x else decide (a.r < b.r)) else decide (a.k < b.k)
theorem lessA_irrefl (a : At) : lessA a a = false := by unfold lessA; rw [if_pos rfl, if_pos rfl]; exact lessS_irrefl _
theorem lessA_cases {a b : At} : lessA a b = true ↔ a.k < b.k ∨ (a.k = b.k ∧ (a.r < b.r ∨ (a.r = b.r ∧ lessS a.x b.x = true))) := by
  unfold lessA
  split
  · rename_i h
    split
    · rename_i h2
      exact ⟨fun h3 => .inr ⟨h, .inr ⟨h2, h3⟩⟩, fun h3 => by rcases h3 with h3 | ⟨_, h3 | ⟨_, h3⟩⟩ <;> first | omega | exact h3⟩
    · rename_i h2
      rw [decide_eq_true_eq]
      exact ⟨fun h3 => .inr ⟨h, .inl h3⟩, fun h3 => by rcases h3 with h3 | ⟨_, h3 | ⟨h4, _⟩⟩ <;> first | omega | exact absurd h4 h2⟩
  · rename_i h
    rw [decide_eq_true_eq]
    exact ⟨.inl, fun h3 => by rcases h3 with h3 | ⟨h4, _⟩ <;> first | omega | exact absurd h4 h⟩
theorem lessA_trans {a b c : At} (h1 : lessA a b = true) (h2 : lessA b c = true) : lessA a c = true := by
  rw [lessA_cases] at *
  rcases h1 with h1 | ⟨h1, h1' | ⟨h1', h1''⟩⟩ <;> rcases h2 with h2 | ⟨h2, h2' | ⟨h2', h2''⟩⟩
  all_goals first
    | exact .inl (by omega)
    | exact .inr ⟨by omega, .inl (by omega)⟩
    | exact .inr ⟨by omega, .inr ⟨by omega, lessS_trans h1'' h2''⟩⟩
theorem lessA_total {a b : At} (h1 : lessA a b = false) (h2 : lessA b a = false) : a = b := by
  have n1 : ¬ lessA a b = true := by rw [h1]; simp
  have n2 : ¬ lessA b a = true := by rw [h2]; simp
  rw [lessA_cases] at n1 n2
  have ek : a.k = b.k := by omega
  have er : a.r = b.r := by
    rcases Int.lt_trichotomy a.r b.r with h | h | h
    · exact absurd (.inr ⟨ek, .inl h⟩) n1
    · exact h
    · exact absurd (.inr ⟨ek.symm, .inl h⟩) n2
  have ex : a.x = b.x := by
    refine lessS_total ?_ ?_
    · cases h : lessS a.x b.x with
      | false => rfl
      | true => exact absurd (.inr ⟨ek, .inr ⟨er, h⟩⟩) n1
    · cases h : lessS b.x a.x with
      | false => rfl
      | true => exact absurd (.inr ⟨ek.symm, .inr ⟨er.symm, h⟩⟩) n2
  cases a; cases b
  simp only [At.mk.injEq]
  exact ⟨ek, er, ex⟩
theorem lessA_asym {a b : At} (h : lessA a b = true) : lessA b a = false := by
  cases h2 : lessA b a with
  | false => rfl
  | true => have := lessA_trans h h2; rw [lessA_irrefl] at this; cases this
/-- Is it an atom? -/
def atomB (a : At) : Bool := if a.k = 3 then decide (a.r = 0) && Words.exnB a.x else (decide (a.k = 1) || decide (a.k = 2)) && decide (0 ≤ a.r) && decide (a.x = ByteArray.empty)
/-- Rising: each ahead of all behind it. -/
def Up (l : List At) : Prop := l.Pairwise fun a b => lessA a b = true
/-- Two rising rows with the same atoms are one. -/
theorem up_uniq : ∀ {l m : List At}, Up l → Up m → (∀ a, a ∈ l ↔ a ∈ m) → l = m
  | [], [], _, _, _ => rfl
  | [], b :: m, _, _, h => by have := (h b).2 (by simp); cases this
  | a :: l, [], _, _, h => by have := (h a).1 (by simp); cases this
  | a :: l, b :: m, hl, hm, h => by
    have hl' := List.pairwise_cons.1 hl
    have hm' := List.pairwise_cons.1 hm
    have e : a = b := by
      rcases List.mem_cons.1 ((h a).1 (by simp)) with e | ha
      · exact e
      · rcases List.mem_cons.1 ((h b).2 (by simp)) with e | hb
        · exact e.symm
        · have h1 := hm'.1 a ha
          have h2 := hl'.1 b hb
          have := lessA_trans h1 h2
          rw [lessA_irrefl] at this; cases this
    subst e
    congr 1
    refine up_uniq hl'.2 hm'.2 fun x => ⟨fun hx => ?_, fun hx => ?_⟩
    · rcases List.mem_cons.1 ((h x).1 (by simp [hx])) with e | h3
      · subst e; have := hl'.1 x hx; rw [lessA_irrefl] at this; cases this
      · exact h3
    · rcases List.mem_cons.1 ((h x).2 (by simp [hx])) with e | h3
      · subst e; have := hm'.1 x hx; rw [lessA_irrefl] at this; cases this
      · exact h3
/-- The document's way: an atom is put to its place. -/
def insA (a : At) : List At → List At
  | [] => [a]
  | x :: xs => if lessA a x = true then a :: x :: xs else x :: insA a xs
def putA (e : List At) (a : At) : List At := if atomB a = true ∧ a ∉ e then insA a e else e
def ofA (l : List At) : List At := l.foldl putA []
theorem mem_ins (a b : At) : ∀ l, b ∈ insA a l ↔ b = a ∨ b ∈ l
  | [] => by simp [insA]
  | x :: xs => by
    unfold insA
    split
    · simp
    · rw [List.mem_cons, mem_ins a b xs, List.mem_cons]
      exact ⟨fun h => by rcases h with h | h | h <;> simp [h], fun h => by rcases h with h | h | h <;> simp [h]⟩
theorem up_ins {a : At} : ∀ {l : List At}, Up l → a ∉ l → Up (insA a l)
  | [], _, _ => List.pairwise_singleton _ _
  | x :: xs, h, hn => by
    have h' := List.pairwise_cons.1 h
    unfold insA
    split
    · rename_i hl
      refine List.pairwise_cons.2 ⟨fun b hb => ?_, h⟩
      rcases List.mem_cons.1 hb with rfl | hb
      · exact hl
      · exact lessA_trans hl (h'.1 b hb)
    · rename_i hl
      refine List.pairwise_cons.2 ⟨fun b hb => ?_, up_ins h'.2 fun hx => hn (by simp [hx])⟩
      rcases (mem_ins a b xs).1 hb with rfl | hb
      · cases h3 : lessA x b with
        | true => rfl
        | false => exact absurd (by rw [lessA_total h3 (by simpa using hl)]; simp) hn
      · exact h'.1 b hb
theorem up_put {e : List At} (h : Up e) (a : At) : Up (putA e a) := by
  unfold putA
  split
  · rename_i hp; exact up_ins h hp.2
  · exact h
theorem mem_put (e : List At) (a b : At) : b ∈ putA e a ↔ b ∈ e ∨ (b = a ∧ atomB a = true) := by
  unfold putA
  split
  · rename_i hp
    rw [mem_ins]
    exact ⟨fun h => h.elim (fun h => .inr ⟨h, hp.1⟩) .inl, fun h => h.elim .inr fun h => .inl h.1⟩
  · rename_i hp
    refine ⟨.inl, fun h => h.elim id fun ⟨h1, h2⟩ => ?_⟩
    subst h1
    exact Classical.not_not.1 fun hn => hp ⟨h2, hn⟩
theorem up_fold : ∀ (l e : List At), Up e → Up (l.foldl putA e) ∧ ∀ b, b ∈ l.foldl putA e ↔ b ∈ e ∨ (b ∈ l ∧ atomB b = true)
  | [], e, h => ⟨h, fun b => by simp⟩
  | a :: l, e, h => by
    obtain ⟨h1, h2⟩ := up_fold l (putA e a) (up_put h a)
    refine ⟨h1, fun b => ?_⟩
    show b ∈ l.foldl putA (putA e a) ↔ _
    rw [h2, mem_put, List.mem_cons]
    constructor
    · rintro ((h | ⟨rfl, h⟩) | ⟨h, h'⟩)
      · exact .inl h
      · exact .inr ⟨.inl rfl, h⟩
      · exact .inr ⟨.inr h, h'⟩
    · rintro (h | ⟨rfl | h, h'⟩)
      · exact .inl (.inl h)
      · exact .inl (.inr ⟨rfl, h'⟩)
      · exact .inr ⟨h, h'⟩
theorem up_of (l : List At) : Up (ofA l) := (up_fold l [] List.Pairwise.nil).1
theorem mem_of (l : List At) (b : At) : b ∈ ofA l ↔ b ∈ l ∧ atomB b = true := by
  have := (up_fold l [] List.Pairwise.nil).2 b
  unfold ofA
  rw [this]
  simp
theorem of_uniq {l e : List At} (hu : Up e) (hm : ∀ b, b ∈ e ↔ b ∈ l ∧ atomB b = true) : e = ofA l := up_uniq hu (up_of l) fun b => (hm b).trans (mem_of l b).symm
theorem of_congr {l m : List At} (h : ∀ b, atomB b = true → (b ∈ l ↔ b ∈ m)) : ofA l = ofA m := of_uniq (up_of l) fun b => by rw [mem_of]; exact ⟨fun ⟨h1, h2⟩ => ⟨(h b h2).1 h1, h2⟩, fun ⟨h1, h2⟩ => ⟨(h b h2).2 h1, h2⟩⟩
/-- What compare tells. -/
def cmpA (a b : At) : Int := if a.k = b.k then (if a.r = b.r then (if lessS a.x b.x = true then -1 else if lessS b.x a.x = true then 1 else 0) else if a.r < b.r then -1 else 1) else if a.k < b.k then -1 else 1
theorem cmpA_neg (a b : At) : decide (cmpA a b < 0) = lessA a b := by
  unfold cmpA lessA
  split
  · split
    · cases h : lessS a.x b.x <;> simp
      split <;> decide
    · split <;> simp [*]
  · split <;> simp [*]
theorem swoA : Sort.SWO lessA := ⟨lessA_irrefl, fun x y z => lessA_trans, fun x y z h1 h2 => by
  cases h : lessA x z with
  | false => rfl
  | true =>
    cases h3 : lessA y x with
    | true => have := lessA_trans h3 h; rw [h2] at this; cases this
    | false => rw [lessA_total h1 h3] at h; rw [h] at h2; cases h2⟩
end Effect
end Go.Proofs.YtabegjpledammaaGreatDoor
