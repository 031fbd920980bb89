/- The walk of whether a node alone may be, by the document. -/
import Derived.Test.YtlmaphaipcfppaaGreatDoorTermNode
import Derived.Deep.QuietTactic
import Derived.BigQuiet
import Derived.Deep.Cut
import Derived.Deep.CutRange
import Derived.Deep.RegionHeld3
namespace Go.Proofs.YtlmaphaipcfppaaGreatDoor
open Go.RowKit
set_option linter.unusedVariables false
namespace Term
open Words (nameB exnB)

def opOk (h : Hd) : Prop := if h.k = 9 then 1 ≤ h.op ∧ h.op ≤ 5 else h.op = 0
def nOk (h : Hd) : Prop := 0 ≤ h.n ∧ h.n ≤ 2147483647 ∧ (h.k ≠ 1 → h.n = 0)
instance (h : Hd) : Decidable (opOk h) := by unfold opOk; infer_instance
instance (h : Hd) : Decidable (nOk h) := by unfold nOk; infer_instance
def nameF (k : Int) : Bool := decide (k = 2 ∨ k = 12 ∨ k = 13)
def argF (k : Int) : Bool := decide (k = 11 ∨ k = 13 ∨ k = 16)
def exnF (k : Int) : Bool := decide (k = 15 ∨ k = 16)
/-- May a node alone be, of so many kids? -/
def nodeB (h : Hd) (l : Nat) : Bool := decide (kidsN h.k = l ∧ 0 ≤ h.pl ∧ opOk h ∧ nOk h) && (fitsB (nameF h.k) h.name (nameB h.name) && fitsB (argF h.k) h.arg (nameB h.arg) && fitsB (exnF h.k) h.exn (exnB h.exn))
theorem nodeB_no {h : Hd} {l : Nat} (hn : ¬ (kidsN h.k = l ∧ 0 ≤ h.pl ∧ opOk h ∧ nOk h)) : nodeB h l = false := by unfold nodeB; rw [decide_eq_false hn]; rfl
theorem nodeB_yes {h : Hd} {l : Nat} (hn : kidsN h.k = l ∧ 0 ≤ h.pl ∧ opOk h ∧ nOk h) : nodeB h l = (fitsB (nameF h.k) h.name (nameB h.name) && fitsB (argF h.k) h.arg (nameB h.arg) && fitsB (exnF h.k) h.exn (exnB h.exn)) := by unfold nodeB; rw [decide_eq_true hn]; rfl

set_option maxRecDepth 100000 in
set_option maxHeartbeats 3200000 in
/-- Kids or a place that may not be. -/
theorem node_kids (k op pl nn : Int) (nm ar ex : ByteArray) (p : Option Addr) (l c : Nat) (w : World) (hk : 0 ≤ k ∧ k ≤ 255) (hl : l ≤ 9223372036854775807) (hb : ¬ (kidsN k = l ∧ 0 ≤ pl)) :
    Calls Tryz.prog 31 #[.agg #[.int .u8 k, .int .u8 op, .int .i64 pl, .int .i64 nn, .string nm, .string ar, .string ex, .slice p l c]] w fun e w' => e = .returned (.bool false) ∧ Below w.heap.size w w' := by
  have hbox : ∀ O : Obj, ∀ q, Below w.heap.size w ((w.alloc O).drewN q) := fun O q => ⟨rfl, rfl, rfl, by simp [World.drewN], fun i hi => Below.heap_alloc _ _ _ hi⟩
  have HBOX := Lib.hid hbox
  have hkc := fun W => refKids_walk k hk.1 hk.2 W
  have HKC := Lib.hid hkc
  obtain ⟨K, hK⟩ : ∃ K, K = kidsN k := ⟨_, rfl⟩
  rw [← hK] at hb hkc
  have HKC := Lib.hid hkc
  clear hbox hkc hK
  by_cases h1 : K < 0
  · clear hb
    go_enter Tryz.func31, Tryz.ntmps31
    go_wp2_with (fail)
    go_quiet ((go_at_call 56; exact Calls.quiet_of_same ((HKC.out _).mono fun _ _ h => ⟨h.1, h.2.symm⟩)))
    go_wp2_with (fail)
    go_ret
    exact ⟨rfl, HBOX.out _ _⟩
  by_cases h2 : K = (l : Int)
  · have h3 : pl < 0 := by omega
    have n1 : ((l : Int) != K) = false := by rw [h2]; simp
    have hd : decide (K < 0) = false := by simpa using h1
    have H2 := Lib.hid h2
    clear hb h2
    go_enter Tryz.func31, Tryz.ntmps31
    go_wp2_with (fail)
    go_quiet ((go_at_call 56; exact Calls.quiet_of_same ((HKC.out _).mono fun _ _ h => ⟨h.1, h.2.symm⟩)))
    go_wp2_with (fail)
    go_ret
    exact ⟨rfl, HBOX.out _ _⟩
  · have n1 : ((l : Int) != K) = true := by rw [bne_iff_ne]; exact fun e => h2 e.symm
    have hd : decide (K < 0) = false := by simpa using h1
    clear hb
    go_enter Tryz.func31, Tryz.ntmps31
    go_wp2_with (fail)
    go_quiet ((go_at_call 56; exact Calls.quiet_of_same ((HKC.out _).mono fun _ _ h => ⟨h.1, h.2.symm⟩)))
    go_wp2_with (fail)
    go_ret
    exact ⟨rfl, HBOX.out _ _⟩

set_option maxRecDepth 100000 in
set_option maxHeartbeats 3200000 in
/-- An operation that may not be. -/
theorem node_ops (k op pl nn : Int) (nm ar ex : ByteArray) (p : Option Addr) (l c : Nat) (w : World) (hk : 0 ≤ k ∧ k ≤ 255) (hop : 0 ≤ op ∧ op ≤ 255) (hl : l ≤ 9223372036854775807) (hb : kidsN k = l) (hpl : 0 ≤ pl) (ho : ¬ opOk ⟨k, op, pl, nn, nm, ar, ex⟩) :
    Calls Tryz.prog 31 #[.agg #[.int .u8 k, .int .u8 op, .int .i64 pl, .int .i64 nn, .string nm, .string ar, .string ex, .slice p l c]] w fun e w' => e = .returned (.bool false) ∧ Below w.heap.size w w' := by
  have hbox : ∀ O : Obj, ∀ q, Below w.heap.size w ((w.alloc O).drewN q) := fun O q => ⟨rfl, rfl, rfl, by simp [World.drewN], fun i hi => Below.heap_alloc _ _ _ hi⟩
  have HBOX := Lib.hid hbox
  have hkc := fun W => refKids_walk k hk.1 hk.2 W
  rw [hb] at hkc
  have HKC := Lib.hid hkc
  have n1 : ((l : Int) != (l : Int)) = false := by simp
  have hd : decide ((l : Int) < 0) = false := by simp
  clear hbox hkc hb
  unfold opOk at ho
  simp only at ho
  by_cases h9 : k = 9
  · rw [if_pos h9] at ho
    have t1 : (k == 9) = true := by simpa using h9
    have t2 : (k != 9) = false := by simpa using h9
    have H9 := Lib.hid h9
    clear h9
    by_cases h1 : op < 1
    · clear ho
      go_enter Tryz.func31, Tryz.ntmps31
      go_wp2_with (fail)
      go_quiet ((go_at_call 56; exact Calls.quiet_of_same ((HKC.out _).mono fun _ _ h => ⟨h.1, h.2.symm⟩)))
      go_wp2_with (fail)
      go_ret
      exact ⟨rfl, HBOX.out _ _⟩
    · have h5 : 5 < op := by omega
      clear ho
      go_enter Tryz.func31, Tryz.ntmps31
      go_wp2_with (fail)
      go_quiet ((go_at_call 56; exact Calls.quiet_of_same ((HKC.out _).mono fun _ _ h => ⟨h.1, h.2.symm⟩)))
      go_wp2_with (fail)
      go_ret
      exact ⟨rfl, HBOX.out _ _⟩
  · rw [if_neg h9] at ho
    have t1 : (k == 9) = false := by simpa using h9
    have t2 : (k != 9) = true := by simpa using h9
    have t3 : (op != 0) = true := by simpa using ho
    have H9 := Lib.hid h9
    clear h9 ho
    go_enter Tryz.func31, Tryz.ntmps31
    go_wp2_with (fail)
    go_quiet ((go_at_call 56; exact Calls.quiet_of_same ((HKC.out _).mono fun _ _ h => ⟨h.1, h.2.symm⟩)))
    go_wp2_with (fail)
    go_ret
    exact ⟨rfl, HBOX.out _ _⟩

set_option maxRecDepth 100000 in
set_option maxHeartbeats 6400000 in
/-- A number that may not be. -/
theorem node_ns (k op pl nn : Int) (nm ar ex : ByteArray) (p : Option Addr) (l c : Nat) (w : World) (hk : 0 ≤ k ∧ k ≤ 255) (hop : 0 ≤ op ∧ op ≤ 255) (hl : l ≤ 9223372036854775807) (hb : kidsN k = l) (hpl : 0 ≤ pl) (ho : opOk ⟨k, op, pl, nn, nm, ar, ex⟩) (hn : ¬ nOk ⟨k, op, pl, nn, nm, ar, ex⟩) :
    Calls Tryz.prog 31 #[.agg #[.int .u8 k, .int .u8 op, .int .i64 pl, .int .i64 nn, .string nm, .string ar, .string ex, .slice p l c]] w fun e w' => e = .returned (.bool false) ∧ Below w.heap.size w w' := by
  have hbox : ∀ O : Obj, ∀ q, Below w.heap.size w ((w.alloc O).drewN q) := fun O q => ⟨rfl, rfl, rfl, by simp [World.drewN], fun i hi => Below.heap_alloc _ _ _ hi⟩
  have HBOX := Lib.hid hbox
  have hkc := fun W => refKids_walk k hk.1 hk.2 W
  rw [hb] at hkc
  have HKC := Lib.hid hkc
  have n1 : ((l : Int) != (l : Int)) = false := by simp
  have hd : decide ((l : Int) < 0) = false := by simp
  clear hbox hkc hb
  unfold opOk at ho
  unfold nOk at hn
  simp only at ho hn
  have hways : nn < 0 ∨ 2147483647 < nn ∨ (¬ nn < 0 ∧ ¬ 2147483647 < nn ∧ k ≠ 1 ∧ nn ≠ 0) := by
    by_cases a : nn < 0
    · exact .inl a
    by_cases b : 2147483647 < nn
    · exact .inr (.inl b)
    refine .inr (.inr ⟨a, b, fun e => hn ⟨by omega, by omega, fun h => absurd e h⟩, fun e => hn ⟨by omega, by omega, fun _ => e⟩⟩)
  clear hn
  by_cases h9 : k = 9
  · rw [if_pos h9] at ho
    obtain ⟨o1, o5⟩ := ho
    have t1 : (k == 9) = true := by simpa using h9
    have t2 : (k != 9) = false := by simpa using h9
    have H9 := Lib.hid h9
    clear h9
    rcases hways with h | h | ⟨a, b, h1, h0⟩
    · go_enter Tryz.func31, Tryz.ntmps31
      go_wp2_with (fail)
      go_quiet ((go_at_call 56; exact Calls.quiet_of_same ((HKC.out _).mono fun _ _ h => ⟨h.1, h.2.symm⟩)))
      go_wp2_with (fail)
      go_ret
      exact ⟨rfl, HBOX.out _ _⟩
    · go_enter Tryz.func31, Tryz.ntmps31
      go_wp2_with (fail)
      go_quiet ((go_at_call 56; exact Calls.quiet_of_same ((HKC.out _).mono fun _ _ h => ⟨h.1, h.2.symm⟩)))
      go_wp2_with (fail)
      go_ret
      exact ⟨rfl, HBOX.out _ _⟩
    · have u1 : (k != 1) = true := by simpa using h1
      have u0 : (nn != 0) = true := by simpa using h0
      clear h1 h0
      go_enter Tryz.func31, Tryz.ntmps31
      go_wp2_with (fail)
      go_quiet ((go_at_call 56; exact Calls.quiet_of_same ((HKC.out _).mono fun _ _ h => ⟨h.1, h.2.symm⟩)))
      go_wp2_with (fail)
      go_ret
      exact ⟨rfl, HBOX.out _ _⟩
  · rw [if_neg h9] at ho
    subst ho
    have t1 : (k == 9) = false := by simpa using h9
    have t2 : (k != 9) = true := by simpa using h9
    have H9 := Lib.hid h9
    clear h9 hop
    rcases hways with h | h | ⟨a, b, h1, h0⟩
    · go_enter Tryz.func31, Tryz.ntmps31
      go_wp2_with (fail)
      go_quiet ((go_at_call 56; exact Calls.quiet_of_same ((HKC.out _).mono fun _ _ h => ⟨h.1, h.2.symm⟩)))
      go_wp2_with (fail)
      go_ret
      exact ⟨rfl, HBOX.out _ _⟩
    · go_enter Tryz.func31, Tryz.ntmps31
      go_wp2_with (fail)
      go_quiet ((go_at_call 56; exact Calls.quiet_of_same ((HKC.out _).mono fun _ _ h => ⟨h.1, h.2.symm⟩)))
      go_wp2_with (fail)
      go_ret
      exact ⟨rfl, HBOX.out _ _⟩
    · have u1 : (k != 1) = true := by simpa using h1
      have u0 : (nn != 0) = true := by simpa using h0
      clear h1 h0
      go_enter Tryz.func31, Tryz.ntmps31
      go_wp2_with (fail)
      go_quiet ((go_at_call 56; exact Calls.quiet_of_same ((HKC.out _).mono fun _ _ h => ⟨h.1, h.2.symm⟩)))
      go_wp2_with (fail)
      go_ret
      exact ⟨rfl, HBOX.out _ _⟩
end Term
end Go.Proofs.YtlmaphaipcfppaaGreatDoor
