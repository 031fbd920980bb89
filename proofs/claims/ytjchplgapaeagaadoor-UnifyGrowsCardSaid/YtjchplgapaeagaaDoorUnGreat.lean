/- The walks of the statements' own helpers: a variable, and rows that are gone through. -/
import Derived.Test.YtjchplgapaeagaaDoorUnAwake
import Derived.IntWalk
namespace Go.Proofs.YtjchplgapaeagaaDoor
open Go.RowKit
set_option linter.unusedVariables false
set_option linter.unusedSimpArgs false
namespace Types

set_option maxRecDepth 10000 in
set_option maxHeartbeats 1600000 in
theorem v_walk (v : Int) (w : World) : Calls Tryd.prog 15 #[.int .i64 v] w fun e w' => e = .returned (.agg #[.int .u8 5, .int .i64 v, .slice none 0 0]) ∧ Below w.heap.size w w' := by
  go_enter Tryd.func15, Tryd.ntmps15
  have hb : ∀ O, Below w.heap.size w (w.alloc O) := fun O => (Below.refl _ _).alloc (Nat.le_refl _) O
  have HB := Lib.hid hb
  clear hb
  go_wp2
  obtain ⟨⟨g0, g1, g2⟩, -, gl⟩ := c3 (heap_alloc_new w (.cells #[.int .u8 5, .int .i64 v, .slice none 0 0] 25))
  refine bodyPost_ret (v := .agg #[.int .u8 5, .int .i64 v, .slice none 0 0]) (by simp [results, Tryd.results15, go_sem, g0, g1, g2, gl]) rfl ⟨rfl, HB.out _⟩
/-- Few types, and none great. -/
def Few (ts : List Ty) : Prop := ts.length ≤ 10 ∧ ∀ t ∈ ts, wt t ≤ 60
theorem few_nv {ts : List Ty} (h : Few ts) : nvK ts ≤ 600 := by
  have key : ∀ l : List Ty, (∀ t ∈ l, wt t ≤ 60) → nvK l ≤ 60 * l.length := by
    intro l
    induction l with
    | nil => intro _; rw [nvK_nil]; exact Nat.zero_le _
    | cons t l ih =>
      intro hl
      rw [nvK_cons, List.length_cons]
      have := ih fun u hu => hl u (by simp [hu])
      have := hl t (by simp)
      have := nv_le t
      omega
  have := key ts h.2
  have := h.1
  omega
set_option maxRecDepth 10000 in
set_option maxHeartbeats 6400000 in
theorem lgreat_walk (ts : List Ty) (p : Option Addr) (l d : Nat) (w : World) (hl : ts.length = l) (hm : l ≤ maxLen) (hK : Kids w p ts) :
    Calls Tryd.prog 9 #[.slice p l d] w fun e w' => ∃ b, e = .returned (.bool b) ∧ (b = false → Few ts) ∧ Below w.heap.size w w' := by
  unfold maxLen at hm
  by_cases h10 : l ≤ 10
  · have HL := Lib.hid hl; have HK := Lib.hid hK
    clear hl hK hm
    go_enter Tryd.func9, Tryd.ntmps9
    go_wp2_with (fail)
    go_loopw [3] (fun i wr => ∃ j : Nat, j ≤ l ∧ i = .int .i64 j ∧ Hid (∀ t ∈ ts.take j, wt t ≤ 60) ∧ Hid (Below w.heap.size w wr)) (fun i _ => l - (intOf i).toNat)
    case atStart => exact ⟨0, Nat.zero_le _, rfl, Lib.hid (by simp), Lib.hid (Below.refl _ _)⟩
    case round =>
      obtain ⟨j, hj, rfl, HF, HW⟩ := hrel
      by_cases hlt : j < l
      · have hjk : j < ts.length := by rw [HL.out]; exact hlt
        obtain ⟨b, o, q, c', rfl, hT, c0, c1', c2⟩ := (HK.out.stay HW.out).get j hjk
        have hgw := great_walk _ _ _ _ _ _ hT
        have HG := Lib.hid hgw; have HT := Lib.hid hT; have HC := Lib.hid (And.intro c0 (And.intro c1' c2)); have HJ := Lib.hid hjk
        clear hgw hT hjk
        go_wp2_with (fail)
        refine HG.out.mono ?_
        rintro e w1 ⟨rfl, hb1⟩
        have r := Reads.of_below hb1
        have d0 := r _ _ HC.out.1; have d1 := r _ _ HC.out.2.1; have d2 := r _ _ HC.out.2.2
        have HW1 := Lib.hid (HW.out.trans (hb1.mono HW.out.size))
        have HT1 := Lib.hid (HT.out.below hb1)
        clear c0 c1' c2 hb1 r
        cases hg : greatB (tget ts j) with
        | true =>
          clear hg
          go_wp2_with (fail)
          go_ret
          exact ⟨true, rfl, (fun h => by cases h), HW1.out⟩
        | false =>
          have hwt := small_of hg
          have HWT := Lib.hid hwt
          clear hg hwt
          go_wp2_with (fail)
          refine (refSize_walk _ _ _ _ _ _ _ (Nat.le_refl _) (by have := HWT.out; omega) HT1.out).mono ?_
          rintro e w2 ⟨rfl, hb2⟩
          have HW2 := Lib.hid (HW1.out.trans (hb2.mono HW1.out.size))
          clear hb2 d0 d1 d2
          by_cases h60 : wt (tget ts j) ≤ 60
          · have hF' : ∀ t ∈ ts.take (j + 1), wt t ≤ 60 := fun t ht => by
              rw [take_tget ts j HJ.out] at ht
              rcases List.mem_append.1 ht with h | h
              · exact HF.out t h
              · rw [List.mem_singleton] at h; subst h; exact h60
            have HF' := Lib.hid hF'
            have hX : (wt (tget ts j) : Int) ≤ 60 := by omega
            clear hF' h60
            generalize wt (tget ts j) = X at *
            go_wp2_with (fail)
            go_roundw
            case rel => exact ⟨j + 1, by omega, by go_num, HF', HW2⟩
            case measure => simp [intOf]; omega
          · have hX : (60 : Int) < (wt (tget ts j) : Int) := by omega
            clear h60
            generalize wt (tget ts j) = X at *
            go_wp2_with (fail)
            go_ret
            exact ⟨true, rfl, (fun h => by cases h), HW2.out⟩
      · obtain rfl : j = l := by omega
        go_wp2_with (fail)
        go_ret
        exact ⟨false, rfl, fun _ => ⟨by rw [HL.out]; exact h10, fun t ht => HF.out t (by rw [List.take_of_length_le (by rw [HL.out]; exact Nat.le_refl _)]; exact ht)⟩, HW.out⟩
  · have HR := Lib.hid (Below.refl w.heap.size w)
    clear hK hl
    go_enter Tryd.func9, Tryd.ntmps9
    go_wp2_with (fail)
    go_ret
    exact ⟨true, rfl, (fun h => by cases h), HR.out⟩
/-- A world behind w, with the first block that was laid as it was. -/
structure BX (w : World) (O : Obj) (W : World) : Prop where
  b : Below w.heap.size w W
  x : W.heap[w.heap.size]? = some O
  s : w.heap.size + 1 ≤ W.heap.size
theorem BX.start (w : World) {cs : Array Value} {ty : TypeId} : BX w (.cells cs ty (0, 0)) (w.alloc (.cells cs ty)) := ⟨box_new _, heap_alloc_new w _, by simp⟩
theorem BX.then {w W W' : World} {O : Obj} (h : BX w O W) (hb : Below W.heap.size W W') : BX w O W' := ⟨h.b.trans (hb.mono h.b.size), (hb.block _ (by have := h.s; omega)).trans h.x, Nat.le_trans h.s hb.size⟩
theorem BX.alloc {w W : World} {O : Obj} (h : BX w O W) (o : Obj) : BX w O (W.alloc o) := h.then (al_new o)
theorem BX.row {w W W' : World} {O o : Obj} (h : BX w O W) (hb : Below (W.alloc o).heap.size (W.alloc o) W') : BX w O W' := (h.alloc o).then hb
end Types
end Go.Proofs.YtjchplgapaeagaaDoor
