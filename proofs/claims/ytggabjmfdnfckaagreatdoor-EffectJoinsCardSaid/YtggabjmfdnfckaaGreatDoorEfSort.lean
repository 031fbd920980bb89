/- A row of atoms of one's own is sorted. -/
import Derived.Test.YtggabjmfdnfckaaGreatDoorEfOrder
namespace Go.Proofs.YtggabjmfdnfckaaGreatDoor
open Go.RowKit Go.Sort Go.Shelf
set_option linter.unusedVariables false
set_option linter.unusedSimpArgs false
namespace Effect

theorem flatK_flat (l : List At) : flatK enc 3 l.toArray = (flat l).toArray := by
  refine ext_get! (by simp [flat_len]) fun t ht => ?_
  have ht' : t < l.toArray.size * 3 := by simpa using ht
  have hl : t / 3 < l.length := by have : t < l.length * 3 := by simpa using ht'
                                   omega
  rw [get_flatK enc 3 l.toArray t ht']
  have h := flat_get l (t / 3) hl (t % 3) (by omega)
  rw [show t / 3 * 3 + t % 3 = t by omega] at h
  have e1 : l.toArray[t / 3]! = aget l (t / 3) := by
    unfold aget
    simp [List.getD_eq_getElem?_getD, hl]
  rw [e1]
  have hf : t < (flat l).length := by rw [flat_len]; omega
  rw [List.getElem?_eq_getElem hf] at h
  have h3 : t % 3 < (enc (aget l (t / 3))).length := Nat.mod_lt t (by decide : 3 > 0)
  rw [List.getElem?_eq_getElem h3] at h
  have h := Option.some.inj h
  have e2 : (enc (aget l (t / 3)))[t % 3]! = (enc (aget l (t / 3)))[t % 3]'h3 := getElem!_pos (enc (aget l (t / 3))) (t % 3) h3
  have e3 : (flat l).toArray[t]! = (flat l)[t]'hf := by
    rw [getElem!_pos (flat l).toArray t (by simpa using hf)]; simp
  rw [e2, e3, h]
theorem holdsV {w : World} {g : Nat} {cur : Array Value} {e : TypeId} {F : List Value} (hb : w.heap[g]? = some (.cells cur e (0, 0))) (ht : cur.toList.take F.length = F) : Holds id w g 0 F.toArray := by
  intro j hj
  have hj' : j < F.length := by simpa using hj
  refine ⟨?_, by simp [World.frozen?, hb]⟩
  have h1 : (cur.toList.take F.length)[j]? = F[j]? := by rw [ht]
  rw [List.getElem?_take_of_lt hj'] at h1
  simp only [World.cell?, hb, Nat.zero_add]
  simp only [Option.isSome_none, Bool.false_eq_true, if_false]
  rw [← Array.getElem?_toList, h1]
  simp [hj']
theorem heap_sortedV {w : World} {g n : Nat} {os : Array Obj} {cur : Array Value} {e : TypeId} {fr : Nat × Nat} (d : Array Value) (hb : w.heap[g]? = some (.cells cur e fr)) :
    (grow (putRow id (Sort.ahead w n) g 0 d) os).heap[g]? = some (.cells (putCells id 0 d cur) e fr) := by
  have hg : g < w.heap.size := (Array.getElem?_eq_some_iff.1 hb).1
  rw [heap_grow_old _ _ (by simpa using hg)]
  simp [putRow, mapBlock, Sort.ahead, Array.getElem?_modify, hb, onCells]
theorem grownBy_sortedV {w : World} {g n : Nat} {os : Array Obj} (d : Array Value) : w.grownBy (grow (putRow id (Sort.ahead w n) g 0 d) os) (some g) := by
  refine ⟨rfl, rfl, rfl, by simp, fun k hk hne => ?_⟩
  rw [heap_grow_old _ _ (by simpa using hk)]
  have : g ≠ k := fun e => hne (by rw [e])
  simp [putRow, mapBlock, Sort.ahead, Array.getElem?_modify, this]
theorem take_putCellsV (cur : Array Value) (ts : List Value) (h : ts.length ≤ cur.size) : (putCells id 0 ts.toArray cur).toList.take ts.length = ts := by
  apply List.ext_getElem?
  intro j
  by_cases hj : j < ts.length
  · rw [List.getElem?_take_of_lt hj, Array.getElem?_toList]
    simp [putCells, hj, show j < cur.size by omega]
  · rw [List.getElem?_take_eq_none (by omega), List.getElem?_eq_none (by omega)]
theorem lt_eq : ltOf cmpA = lessA := funext fun x => funext fun y => cmpA_neg x y
theorem enters_order : ∀ args w, (callFunc 41 args).run Tryz.prog w = .ok (.enter 41 args) w := enters_of Tryz.func41 (by kernel_rfl) rfl
theorem sort_walk (B n c : Nat) (a : Option Addr) (l : List At) (w : World) (hl : l.length = n) (h : w.ownsRow B 47 3 (.slice a n c) n (flat l)) (hn : n < 4611686018427387904) :
    Calls Tryz.prog 40 #[.slice a n c, .func (.func 41) #[] #[]] w fun en w' => en = .returned (.tuple #[]) ∧ ∃ s : List At, s.length = n ∧ s.Perm l ∧ s.Pairwise (fun x y => lessA y x = false) ∧ w'.ownsRow B 47 3 (.slice a n c) n (flat s) ∧ w.grownBy w' (Value.slice a n c).ownBlock := by
  subst hl
  rcases h.2 with ⟨hv, h0⟩ | ⟨g, cap, cur, hv, hb, hg, h1, h2, h3, h4⟩
  · have hl : l = [] := List.eq_nil_of_length_eq_zero h0
    subst hl
    have hc := AnyF.slices_SortFunc_none (P := Tryz.prog) (ρ := Tryz.sortAt_ren) { Tryz.sortAt with } a c (.func (.func 41) #[] #[]) w
    change Calls Tryz.prog 40 _ _ _ at hc
    refine hc.mono ?_
    rintro en w' ⟨rfl, rfl⟩
    exact ⟨rfl, [], rfl, List.Perm.refl _, List.Pairwise.nil, h, ⟨rfl, rfl, rfl, Nat.le_refl _, fun _ _ _ => rfl⟩⟩
  · injection hv with hv1 hv2 hv3
    subst hv1 hv3
    have hH : HoldsK enc 3 w g 0 l.toArray := by
      unfold HoldsK
      rw [flatK_flat]
      exact holdsV hg (by rw [flat_len]; exact h4)
    have hc := AnyQ.slices_SortFunc_total Tryz.sortAt 3 Tryz.isAgg47 Tryz.sizeOf47 enc (fun _ => rfl) (fun x v hv => by simp [enc] at hv; rcases hv with rfl | rfl | rfl <;> rfl) cmpA (by rw [lt_eq]; exact swoA) 41 #[] g 0 c l.toArray w enters_order (fun _ _ _ _ x y => order_walk x y _) hH (lt_of_block hg) (by simpa using hn) (by rw [lt_eq]; exact fun x y => lessA_total)
    change Calls Tryz.prog 40 _ _ _ at hc
    rw [List.size_toArray] at hc
    refine hc.mono ?_
    rintro en w' ⟨rfl, q, os, rfl⟩
    rw [lt_eq]
    have hlen : (l.mergeSort fun x y => !lessA y x).length = l.length := List.length_mergeSort _
    refine ⟨rfl, l.mergeSort fun x y => !lessA y x, hlen, List.mergeSort_perm _ _, ?_, ?_, ?_⟩
    · refine (List.pairwise_mergeSort (le := fun x y => !lessA y x) (fun a b c h1 h2 => ?_) (fun a b => ?_) l).imp fun h => by simpa using h
      · have h1' : lessA b a = false := by simpa using h1
        have h2' : lessA c b = false := by simpa using h2
        have := swoA.ntrans c b a h2' h1'
        rw [this]; rfl
      · cases h : lessA b a with
        | false => rfl
        | true => rw [lessA_asym h]; rfl
    · show (grow (putRow id (Sort.ahead w q) g 0 (flatK enc 3 _)) os).ownsRow _ _ _ _ _ _
      rw [flatK_flat]
      refine ⟨by rw [flat_len, hlen], .inr ⟨g, c, _, rfl, hb, heap_sortedV _ hg, h1, h2, by simp [putCells, h3], ?_⟩⟩
      have := take_putCellsV cur (flat (l.mergeSort fun x y => !lessA y x)) (by rw [flat_len, hlen]; omega)
      rw [flat_len, hlen] at this
      exact this
    · show w.grownBy (grow (putRow id (Sort.ahead w q) g 0 (flatK enc 3 _)) os) (some g)
      exact grownBy_sortedV _
end Effect
end Go.Proofs.YtggabjmfdnfckaaGreatDoor
