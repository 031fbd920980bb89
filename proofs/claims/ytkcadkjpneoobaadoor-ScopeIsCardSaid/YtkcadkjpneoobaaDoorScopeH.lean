/- What is free in terms, and which exceptions they name: the program's answers. (Written by wip/tools/scopemet.py.) -/
import Derived.Test.YtkcadkjpneoobaaDoorScopeG
import Derived.Test.YtkcadkjpneoobaaDoorGTermC
namespace Go.Proofs.YtkcadkjpneoobaaDoor
open Go.RowKit
set_option linter.unusedVariables false
set_option linter.unusedSimpArgs false
namespace Scope
open Term (Tm Hd TmIs ret_bool ret_i64 tget wt wts wts_cons wts_nil drop_tget tcells mayT)
open Words (str_no str_yes)

/-- What is met in terms that may be. -/
def metF (look : List ByteArray → Hd → ByteArray) (ts : List Tm) : List ByteArray := if ts.all mayT = true then (scL (fun _ _ _ => true) (metS look) [] ts []).2 else []
/-- How such a call ends. -/
def MetEnd (ns : List ByteArray) (w : World) (e : Ending) (w' : World) : Prop := ∃ v, e = .returned v ∧ Nm w' w.heap.size v ns ∧ Below w.heap.size w w'
theorem all_no {ts : List Tm} {j : Nat} (hj : j < ts.length) (h : mayT (tget ts j) = false) : ts.all mayT = false := by
  rw [List.all_eq_false]
  exact ⟨_, Term.tget_mem hj, by rw [h]; exact Bool.false_ne_true⟩
theorem all_yes {ts : List Tm} (h : ∀ i, i < ts.length → mayT (tget ts i) = true) : ts.all mayT = true := by
  rw [List.all_eq_true]
  intro t ht
  obtain ⟨i, hi, e⟩ := List.getElem_of_mem ht
  have := h i hi
  have e2 : tget ts i = t := by unfold tget; rw [List.getD_eq_getElem?_getD, List.getElem?_eq_getElem hi, e]; rfl
  rw [e2] at this
  exact this

set_option maxRecDepth 100000 in
set_option maxHeartbeats 6400000 in
theorem metFree_walk (ts : List Tm) (p : Option Addr) (l d : Nat) (w : World) (hk : Term.Kids w p ts) (hl : ts.length = l) (hlm : l ≤ maxLen) (hw : wts ts ≤ 40000) (hkw : Words.KwLaid w) :
    Calls Tryd.prog 30 #[.func (.func 27) #[] #[], .slice p l d] w (MetEnd (metF freeP ts) w) := by
  have hmf : ∀ (fn : Fn) (first cap : Array Value) (w : World), (Instr.makeFunc fn first cap).run Tryd.prog w = .ok (.func fn first cap) w := fun _ _ _ _ => rfl
  have hal : Below w.heap.size w (w.alloc (.cells #[.func (.func 27) #[] #[]] 60)) := (Below.refl _ _).alloc (Nat.le_refl _) _
  unfold maxLen at hlm
  have HK := Lib.hid hk; have HL := Lib.hid hl; have HW := Lib.hid hw; have HKW := Lib.hid hkw; have HAL := Lib.hid hal
  clear hk hl hw hkw hal
  go_enter Tryd.func30, Tryd.ntmps30
  go_wp2_with (fail)
  go_loopw [6, 10] (fun _ i wr => ∃ j : Nat, j ≤ l ∧ i = .int .i64 j ∧ Hid (∀ i, i < j → mayT (tget ts i) = true) ∧ Hid (Below (w.heap.size + 1) (w.alloc (.cells #[.func (.func 27) #[] #[]] 60)) wr)) (fun _ i _ => l - (intOf i).toNat)
  case atStart => exact ⟨0, Nat.zero_le _, rfl, Lib.hid (fun i hi => by omega), Lib.hid (Below.refl _ _)⟩
  case round =>
    obtain ⟨j, hj, rfl, HY, HB⟩ := hrel
    by_cases hlt : j < l
    · have hjk : j < ts.length := by rw [HL.out]; exact hlt
      have hbw : Below w.heap.size w wr := HAL.out.trans (HB.out.mono (by omega))
      obtain ⟨b, o, q, c', rfl, hkid, c0, c1, c2, c3, c4, c5, c6, c7⟩ := (HK.out.stay hbw).get j hjk
      have hal2 := fun O : Obj => (Below.refl wr.heap.size wr).alloc (Nat.le_refl _) O
      have hmay := fun O : Obj => Term.may_walk (tget ts j) _ q _ c' (wr.alloc O) (hkid.below (hal2 O)) ((HKW.out.below hbw).below (hal2 O))
      have HM := Lib.hid hmay; have HJ := Lib.hid hjk; have HBW := Lib.hid hbw; have HA2 := Lib.hid hal2
      clear hbw hal2 hmay hjk hkid
      go_wp2_with (fail)
      refine (HM.out _).mono ?_
      rintro e w2 ⟨rfl, hb2⟩
      have hb2' := (HA2.out _).trans (hb2.mono (HA2.out _).size)
      have HB2 := Lib.hid (HB.out.trans (hb2'.mono (by have := HB.out.size; simpa using this)))
      have HW2 := Lib.hid (HBW.out.trans (hb2'.mono HBW.out.size))
      clear hb2 hb2' c0 c1 c2 c3 c4 c5 c6 c7
      cases hm : mayT (tget ts j)
      · have hno := all_no HJ.out hm
        have HNO := Lib.hid hno
        clear hno hm
        go_wp2
        go_ret
        refine ⟨_, rfl, ?_, HW2.out⟩
        unfold metF
        rw [HNO.out, if_neg Bool.false_ne_true]
        exact Nm.nil _ _
      · have hy : ∀ i, i < j + 1 → mayT (tget ts i) = true := fun i hi => by
          by_cases h : i = j
          · rw [h]; exact hm
          · exact HY.out i (by omega)
        have HY2 := Lib.hid hy
        clear hy hm
        go_wp2
        go_roundw
        case rel => exact ⟨j + 1, by omega, by go_num, HY2, HB2⟩
        case measure => simp [intOf]; omega
    · obtain rfl : j = l := by omega
      have hy := all_yes (ts := ts) (fun i hi => HY.out i (by rw [← HL.out]; exact hi))
      have hbw : Below w.heap.size w wr := HAL.out.trans (HB.out.mono (by omega))
      have hsz : w.heap.size + 1 ≤ wr.heap.size := by have := HB.out.size; simpa using this
      have hal2 : Below wr.heap.size wr (wr.alloc (.cells #[.slice none 0 0] 50)) := (Below.refl _ _).alloc (Nat.le_refl _) _
      have hbW := hbw.trans (hal2.mono hbw.size)
      have hkb : (wr.alloc (.cells #[.slice none 0 0] 50)).heap[w.heap.size]? = some (.cells #[.func (.func 27) #[] #[]] 60 (0, 0)) := (hal2.block _ (by omega)).trans ((HB.out.block _ (by omega)).trans (heap_alloc_new w _))
      have hI : MetI w w.heap.size w.heap.size wr.heap.size (.func (.func 27) #[] #[]) (0 + wts ts) [] (wr.alloc (.cells #[.slice none 0 0] 50)) :=
        ⟨hbW, hbW.size, hkb, ⟨_, heap_alloc_new wr _, Nm.nil _ _⟩, by have := HW.out; simp; omega⟩
      have hcl := met_clo w w.heap.size w.heap.size wr.heap.size (.func (.func 27) #[] #[]) (Nat.le_refl _) (Nat.le_refl _) (by omega)
      have hall := allMet_walk _ _ w w.heap.size w.heap.size wr.heap.size _ _ hcl (metFree_steps w w.heap.size w.heap.size wr.heap.size (Nat.le_refl _) (Nat.le_refl _) (by omega) (by omega)) (wts ts) ts p j d 0 [] (.slice none 0 0) [] (wr.alloc (.cells #[.slice none 0 0] 50)) (Nat.le_refl _) HL.out hlm (Tops.of_kids HK.out hbW)
        (fun hne b o hp _ => by
          have h0 : 0 < ts.length := List.length_pos_iff.2 hne
          obtain ⟨b', o', q, c', hp', _, c0, _⟩ := HK.out.get 0 h0
          rw [hp] at hp'
          injection hp' with hp'
          injection hp' with e1 e2
          subst e1
          have hb := World.block_lt_of_cell? w _ c0
          simp only at hb
          refine ⟨fun hz => by have := (hcl.zone _ _ _ _ hI hz).1; omega, by simp [Value.ownBlock]⟩)
        ⟨Nm.nil _ _, fun b hb => by simp [Value.ownBlock] at hb⟩ (by have := HW.out; simp; omega) hI
      have HALL := Lib.hid hall; have HYA := Lib.hid hy
      clear hy hbw hsz hal2 hbW hkb hI hcl hall
      go_wp2_with (fail)
      refine HALL.out.mono ?_
      rintro e w3 ⟨rfl, hi, _, _⟩
      obtain ⟨v, g1, g2⟩ := hi.found
      obtain ⟨q3, d3, e3, _⟩ := g2.slice
      obtain ⟨n3, hn3⟩ : ∃ n3, v = .slice q3 n3 d3 := ⟨_, e3⟩
      clear e3
      subst hn3
      have hc3 : w3.cell? ⟨wr.heap.size, 0, none⟩ = some (.slice q3 n3 d3) ∧ w3.frozen? ⟨wr.heap.size, 0, none⟩ = false := by simp [World.cell?, World.frozen?, g1]
      obtain ⟨p3, pf3⟩ := hc3
      have fl3 := lt_of_block g1
      have HG := Lib.hid (And.intro g2 hi.base)
      clear g1 g2 hi
      go_wp2_with (fail)
      go_ret
      refine ⟨_, rfl, ?_, HG.out.2⟩
      unfold metF
      rw [if_pos HYA.out]
      exact HG.out.1

set_option maxRecDepth 100000 in
set_option maxHeartbeats 6400000 in
theorem metExn_walk (ts : List Tm) (p : Option Addr) (l d : Nat) (w : World) (hk : Term.Kids w p ts) (hl : ts.length = l) (hlm : l ≤ maxLen) (hw : wts ts ≤ 40000) (hkw : Words.KwLaid w) :
    Calls Tryd.prog 30 #[.func (.func 32) #[] #[], .slice p l d] w (MetEnd (metF (fun (_ : List ByteArray) (h : Hd) => h.exn) ts) w) := by
  have hmf : ∀ (fn : Fn) (first cap : Array Value) (w : World), (Instr.makeFunc fn first cap).run Tryd.prog w = .ok (.func fn first cap) w := fun _ _ _ _ => rfl
  have hal : Below w.heap.size w (w.alloc (.cells #[.func (.func 32) #[] #[]] 60)) := (Below.refl _ _).alloc (Nat.le_refl _) _
  unfold maxLen at hlm
  have HK := Lib.hid hk; have HL := Lib.hid hl; have HW := Lib.hid hw; have HKW := Lib.hid hkw; have HAL := Lib.hid hal
  clear hk hl hw hkw hal
  go_enter Tryd.func30, Tryd.ntmps30
  go_wp2_with (fail)
  go_loopw [6, 10] (fun _ i wr => ∃ j : Nat, j ≤ l ∧ i = .int .i64 j ∧ Hid (∀ i, i < j → mayT (tget ts i) = true) ∧ Hid (Below (w.heap.size + 1) (w.alloc (.cells #[.func (.func 32) #[] #[]] 60)) wr)) (fun _ i _ => l - (intOf i).toNat)
  case atStart => exact ⟨0, Nat.zero_le _, rfl, Lib.hid (fun i hi => by omega), Lib.hid (Below.refl _ _)⟩
  case round =>
    obtain ⟨j, hj, rfl, HY, HB⟩ := hrel
    by_cases hlt : j < l
    · have hjk : j < ts.length := by rw [HL.out]; exact hlt
      have hbw : Below w.heap.size w wr := HAL.out.trans (HB.out.mono (by omega))
      obtain ⟨b, o, q, c', rfl, hkid, c0, c1, c2, c3, c4, c5, c6, c7⟩ := (HK.out.stay hbw).get j hjk
      have hal2 := fun O : Obj => (Below.refl wr.heap.size wr).alloc (Nat.le_refl _) O
      have hmay := fun O : Obj => Term.may_walk (tget ts j) _ q _ c' (wr.alloc O) (hkid.below (hal2 O)) ((HKW.out.below hbw).below (hal2 O))
      have HM := Lib.hid hmay; have HJ := Lib.hid hjk; have HBW := Lib.hid hbw; have HA2 := Lib.hid hal2
      clear hbw hal2 hmay hjk hkid
      go_wp2_with (fail)
      refine (HM.out _).mono ?_
      rintro e w2 ⟨rfl, hb2⟩
      have hb2' := (HA2.out _).trans (hb2.mono (HA2.out _).size)
      have HB2 := Lib.hid (HB.out.trans (hb2'.mono (by have := HB.out.size; simpa using this)))
      have HW2 := Lib.hid (HBW.out.trans (hb2'.mono HBW.out.size))
      clear hb2 hb2' c0 c1 c2 c3 c4 c5 c6 c7
      cases hm : mayT (tget ts j)
      · have hno := all_no HJ.out hm
        have HNO := Lib.hid hno
        clear hno hm
        go_wp2
        go_ret
        refine ⟨_, rfl, ?_, HW2.out⟩
        unfold metF
        rw [HNO.out, if_neg Bool.false_ne_true]
        exact Nm.nil _ _
      · have hy : ∀ i, i < j + 1 → mayT (tget ts i) = true := fun i hi => by
          by_cases h : i = j
          · rw [h]; exact hm
          · exact HY.out i (by omega)
        have HY2 := Lib.hid hy
        clear hy hm
        go_wp2
        go_roundw
        case rel => exact ⟨j + 1, by omega, by go_num, HY2, HB2⟩
        case measure => simp [intOf]; omega
    · obtain rfl : j = l := by omega
      have hy := all_yes (ts := ts) (fun i hi => HY.out i (by rw [← HL.out]; exact hi))
      have hbw : Below w.heap.size w wr := HAL.out.trans (HB.out.mono (by omega))
      have hsz : w.heap.size + 1 ≤ wr.heap.size := by have := HB.out.size; simpa using this
      have hal2 : Below wr.heap.size wr (wr.alloc (.cells #[.slice none 0 0] 50)) := (Below.refl _ _).alloc (Nat.le_refl _) _
      have hbW := hbw.trans (hal2.mono hbw.size)
      have hkb : (wr.alloc (.cells #[.slice none 0 0] 50)).heap[w.heap.size]? = some (.cells #[.func (.func 32) #[] #[]] 60 (0, 0)) := (hal2.block _ (by omega)).trans ((HB.out.block _ (by omega)).trans (heap_alloc_new w _))
      have hI : MetI w w.heap.size w.heap.size wr.heap.size (.func (.func 32) #[] #[]) (0 + wts ts) [] (wr.alloc (.cells #[.slice none 0 0] 50)) :=
        ⟨hbW, hbW.size, hkb, ⟨_, heap_alloc_new wr _, Nm.nil _ _⟩, by have := HW.out; simp; omega⟩
      have hcl := met_clo w w.heap.size w.heap.size wr.heap.size (.func (.func 32) #[] #[]) (Nat.le_refl _) (Nat.le_refl _) (by omega)
      have hall := allMet_walk _ _ w w.heap.size w.heap.size wr.heap.size _ _ hcl (metExn_steps w w.heap.size w.heap.size wr.heap.size (Nat.le_refl _) (Nat.le_refl _) (by omega) (by omega)) (wts ts) ts p j d 0 [] (.slice none 0 0) [] (wr.alloc (.cells #[.slice none 0 0] 50)) (Nat.le_refl _) HL.out hlm (Tops.of_kids HK.out hbW)
        (fun hne b o hp _ => by
          have h0 : 0 < ts.length := List.length_pos_iff.2 hne
          obtain ⟨b', o', q, c', hp', _, c0, _⟩ := HK.out.get 0 h0
          rw [hp] at hp'
          injection hp' with hp'
          injection hp' with e1 e2
          subst e1
          have hb := World.block_lt_of_cell? w _ c0
          simp only at hb
          refine ⟨fun hz => by have := (hcl.zone _ _ _ _ hI hz).1; omega, by simp [Value.ownBlock]⟩)
        ⟨Nm.nil _ _, fun b hb => by simp [Value.ownBlock] at hb⟩ (by have := HW.out; simp; omega) hI
      have HALL := Lib.hid hall; have HYA := Lib.hid hy
      clear hy hbw hsz hal2 hbW hkb hI hcl hall
      go_wp2_with (fail)
      refine HALL.out.mono ?_
      rintro e w3 ⟨rfl, hi, _, _⟩
      obtain ⟨v, g1, g2⟩ := hi.found
      obtain ⟨q3, d3, e3, _⟩ := g2.slice
      obtain ⟨n3, hn3⟩ : ∃ n3, v = .slice q3 n3 d3 := ⟨_, e3⟩
      clear e3
      subst hn3
      have hc3 : w3.cell? ⟨wr.heap.size, 0, none⟩ = some (.slice q3 n3 d3) ∧ w3.frozen? ⟨wr.heap.size, 0, none⟩ = false := by simp [World.cell?, World.frozen?, g1]
      obtain ⟨p3, pf3⟩ := hc3
      have fl3 := lt_of_block g1
      have HG := Lib.hid (And.intro g2 hi.base)
      clear g1 g2 hi
      go_wp2_with (fail)
      go_ret
      refine ⟨_, rfl, ?_, HG.out.2⟩
      unfold metF
      rw [if_pos HYA.out]
      exact HG.out.1

theorem scopeFree_walk (ts : List Tm) (p : Option Addr) (l d : Nat) (w : World) (hk : Term.Kids w p ts) (hl : ts.length = l) (hlm : l ≤ maxLen) (hw : wts ts ≤ 40000) (hkw : Words.KwLaid w) :
    Calls Tryd.prog 14 #[.slice p l d] w (MetEnd (metF freeP ts) w) := by
  have hmf : ∀ (fn : Fn) (first cap : Array Value) (w : World), (Instr.makeFunc fn first cap).run Tryd.prog w = .ok (.func fn first cap) w := fun _ _ _ _ => rfl
  have HM := Lib.hid (metFree_walk ts p l d w hk hl hlm hw hkw)
  clear hk hl hw hkw
  go_enter Tryd.func14, Tryd.ntmps14
  go_wp2_with (fail)
  refine HM.out.mono ?_
  rintro e w' ⟨v, rfl, h1, h2⟩
  have H := Lib.hid (And.intro h1 h2)
  clear h1 h2
  go_wp2_with (fail)
  go_ret
  exact ⟨v, rfl, H.out⟩

theorem scopeExn_walk (ts : List Tm) (p : Option Addr) (l d : Nat) (w : World) (hk : Term.Kids w p ts) (hl : ts.length = l) (hlm : l ≤ maxLen) (hw : wts ts ≤ 40000) (hkw : Words.KwLaid w) :
    Calls Tryd.prog 16 #[.slice p l d] w (MetEnd (metF (fun (_ : List ByteArray) (h : Hd) => h.exn) ts) w) := by
  have hmf : ∀ (fn : Fn) (first cap : Array Value) (w : World), (Instr.makeFunc fn first cap).run Tryd.prog w = .ok (.func fn first cap) w := fun _ _ _ _ => rfl
  have HM := Lib.hid (metExn_walk ts p l d w hk hl hlm hw hkw)
  clear hk hl hw hkw
  go_enter Tryd.func16, Tryd.ntmps16
  go_wp2_with (fail)
  refine HM.out.mono ?_
  rintro e w' ⟨v, rfl, h1, h2⟩
  have H := Lib.hid (And.intro h1 h2)
  clear h1 h2
  go_wp2_with (fail)
  go_ret
  exact ⟨v, rfl, H.out⟩
end Scope
end Go.Proofs.YtkcadkjpneoobaaDoor
