/- The walks of each, with the closure of Size. -/
import Derived.Test.YtpedmaomogigmaaDoorTermEach
namespace Go.Proofs.YtpedmaomogigmaaDoor
open Go.RowKit
set_option linter.unusedVariables false
namespace Term

set_option maxHeartbeats 1600000 in
theorem each1Size_walk {σ : Type} (S : σ → Tm → σ) (w0 : World) (N K : Nat) (I : Nat → σ → World → Prop) (hI : Goes w0 N I) (hC : Sees 29 S w0 N I) :
    Steps 39 (fun _ _ => true) S w0 N K (EachI I N K 29) := by
  intro r s W t h p l c hi hT
  obtain ⟨hi, hNK, hK⟩ := hi
  obtain ⟨k, op, pl, nn, nm, ar, ex⟩ := h
  have hKl := lt_of_block hK
  have cK := cell_of_one hK
  have hbox : ∀ O : Obj, Below W.heap.size W (W.alloc O) := fun O => (Below.refl _ _).alloc (Nat.le_refl _) O
  have HBOX := Lib.hid hbox; have HC := Lib.hid hC; have HI := Lib.hid hi; have HT := Lib.hid hT; have HK := Lib.hid hK; have HNK := Lib.hid hNK; have GI := Lib.hid hI
  clear hbox hC hi hT hK hNK hI
  go_enter Tryd.func39, Tryd.ntmps39
  go_wp2_with (fail)
  refine (HC.out r s _ t _ p l c (GI.out.keep _ _ _ _ HI.out (HBOX.out _)) HT.out).mono ?_
  rintro e w1 ⟨rfl, hi1, hs1⟩
  have hs2 := (Stays.of_below (N := N) (HBOX.out _)).trans hs1
  have HI1 := Lib.hid hi1; have HS2 := Lib.hid hs2
  clear hi1 hs1 hs2 cK hKl
  go_wp2
  go_ret
  exact ⟨rfl, (fun _ => ⟨HI1.out, HNK.out, each_box HNK.out HK.out HS2.out⟩), HS2.out⟩

set_option maxHeartbeats 1600000 in
theorem eachSize_walk {σ : Type} (S : σ → Tm → σ) (w0 : World) (N : Nat) (I : Nat → σ → World → Prop) (hI : Goes w0 N I) (hC : Sees 29 S w0 N I)
    (ts : List Tm) (p : Option Addr) (l d r : Nat) (s : σ) (w : World) (hl : ts.length = l) (hlm : l ≤ maxLen) (hk : Kids w0 p ts) (hi : I (r + wts ts) s w) :
    Calls Tryd.prog 27 #[.func (.func 29) #[] #[.pointer (some ⟨N, 0, none⟩)], .slice p l d] w (SeeEnd N (I r) (sumK S ts s) w) := by
  have hbox : ∀ O : Obj, Below w.heap.size w (w.alloc O) := fun O => (Below.refl _ _).alloc (Nat.le_refl _) O
  have hN := hI.has _ _ _ hi
  have h1 := each1Size_walk S w0 N w.heap.size I hI hC
  have hE : EachI I N w.heap.size 29 (r + wts ts) s (w.alloc (.cells #[.func (.func 29) #[] #[.pointer (some ⟨N, 0, none⟩)]] 44)) := ⟨hI.keep _ _ _ _ hi (hbox _), hN, heap_alloc_new _ _⟩
  have H1 := Lib.hid h1; have HE := Lib.hid hE; have HBOX := Lib.hid hbox; have GI := Lib.hid hI; have HK := Lib.hid hk; have HL := Lib.hid hl; have HLM := Lib.hid hlm
  clear h1 hE hbox hI hk hi hC hl hlm hN
  go_enter Tryd.func27, Tryd.ntmps27
  go_wp2_with (fail)
  refine (allEach_walk (fun _ _ => true) S w0 N w.heap.size _ (EachI.goes GI.out) H1.out (wts ts) ts p l d r s _ (Nat.le_refl _) HL.out HLM.out HK.out HE.out).mono ?_
  rintro e w1 ⟨rfl, hi1, hs1⟩
  have hi2 := hi1 (foK_yes1 S ts s)
  have HI2 := Lib.hid hi2.1; have HS2 := Lib.hid ((Stays.of_below (N := N) (HBOX.out _)).trans hs1)
  have h0 := foK_yes1 S ts s
  have H0 := Lib.hid h0
  clear hi1 hs1 hi2 h0
  generalize hR : (foK (fun _ _ => true) S ts s).1 = R
  have HR := Lib.hid hR; clear hR
  go_wp2
  go_end0
  exact ⟨rfl, HI2.out, HS2.out⟩
end Term
end Go.Proofs.YtpedmaomogigmaaDoor
