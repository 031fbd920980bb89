/- The walk of layer 7's statement on what is bound. -/
import Derived.Test.YtkcadkjpneoobaaDoorScopeBM
import Derived.Test.YtkcadkjpneoobaaDoorScopeN
import Derived.Test.YtkcadkjpneoobaaDoorScopeK
import Derived.Test.YtkcadkjpneoobaaDoorGTermD
namespace Go.Proofs.YtkcadkjpneoobaaDoor
open Go.RowKit
set_option linter.unusedVariables false
set_option linter.unusedSimpArgs false
namespace Scope
open Term (Tm Hd TmIs ret_bool ret_i64 tget wt wts wts_cons wts_nil drop_tget tcells mayT okT greatB Flat)
open Words (str_no str_yes sel StrsAt)

theorem butF_take (x : ByteArray) (s : List ByteArray) (j : Nat) (hj : j < s.length) : butF x (s.take (j + 1)) = if sel s j = x then butF x (s.take j) else butF x (s.take j) ++ [sel s j] := by
  have e : s.take (j + 1) = s.take j ++ [sel s j] := by
    unfold sel
    rw [List.take_add_one, List.getElem?_eq_getElem hj, List.getD_eq_getElem?_getD, List.getElem?_eq_getElem hj]
    rfl
  rw [e]
  unfold butF
  rw [List.filter_append]
  split
  · rename_i h
    rw [h]
    simp
  · rename_i h
    congr 1
    simp [h]
theorem fn_is {W : World} {L : Nat} {ty : TypeId} {h : Hd} {q : Option Addr} {l c : Nat} {t : Tm} {x : ByteArray} (hT : TmIs W h q l c t) (hx : x.size ≤ 100) (hb : W.heap[L]? = some (.cells #[.int .u8 h.k, .int .u8 h.op, .int .i64 h.pl, .int .i64 h.n, .string h.name, .string h.arg, .string h.exn, .slice q l c] ty (0, 0))) :
    TmIs W ⟨11, 0, 0, 0, ⟨#[]⟩, x, ⟨#[]⟩⟩ (some ⟨L, 0, none⟩) 1 1 (fnT x t) :=
  ⟨rfl, rfl, hdE 11 x (by omega) hx, ⟨Nat.le_refl _, by unfold maxLen; omega⟩, kids_blk (xs := tcells h q l c) hb (Flat.one hT)⟩
theorem num_is (W : World) : TmIs W ⟨1, 0, 0, 0, ⟨#[]⟩, ⟨#[]⟩, ⟨#[]⟩⟩ none 0 0 numT :=
  ⟨rfl, rfl, hdE 1 ⟨#[]⟩ (by omega) (by show (0 : Nat) ≤ _; omega), ⟨Nat.le_refl _, by unfold maxLen; omega⟩, .nokids _⟩
theorem let_is {W : World} {L : Nat} {ty : TypeId} {h : Hd} {q : Option Addr} {l c : Nat} {t : Tm} {x : ByteArray} (hT : TmIs W h q l c t) (hx : x.size ≤ 100) (hb : W.heap[L]? = some (.cells #[.int .u8 1, .int .u8 0, .int .i64 0, .int .i64 0, .string ⟨#[]⟩, .string ⟨#[]⟩, .string ⟨#[]⟩, .slice none 0 0, .int .u8 h.k, .int .u8 h.op, .int .i64 h.pl, .int .i64 h.n, .string h.name, .string h.arg, .string h.exn, .slice q l c] ty (0, 0))) :
    TmIs W ⟨12, 0, 0, 0, x, ⟨#[]⟩, ⟨#[]⟩⟩ (some ⟨L, 0, none⟩) 2 2 (letT x t) :=
  ⟨rfl, rfl, hdOk 12 x ⟨#[]⟩ (by omega) (by unfold maxLen; omega) (by unfold maxLen; show (0 : Nat) ≤ _; omega), ⟨Nat.le_refl _, by unfold maxLen; omega⟩, kids_blk (xs := tcells ⟨1, 0, 0, 0, ⟨#[]⟩, ⟨#[]⟩, ⟨#[]⟩⟩ none 0 0 ++ tcells h q l c) hb ((Flat.one (num_is W)).append (Flat.one hT))⟩
theorem fn_wt (x : ByteArray) (t : Tm) : wt (fnT x t) = wt t + 1 := by
  rw [Term.wt_ks]
  show wts [t] + 1 = _
  rw [wts_cons, wts_nil]
theorem let_wt (x : ByteArray) (t : Tm) : wt (letT x t) = wt t + 2 := by
  rw [Term.wt_ks]
  show wts [numT, t] + 1 = _
  have : wt numT = 1 := by rw [Term.wt_ks]; show wts [] + 1 = 1; rw [wts_nil]
  rw [wts_cons, wts_cons, wts_nil]; omega
set_option maxRecDepth 100000 in
set_option maxHeartbeats 25600000 in
theorem scopeBinds_walk (h : Hd) (q : Option Addr) (l c : Nat) (t : Tm) (x : ByteArray) (hx : x.size ≤ maxLen) (w : World) (hT : TmIs w h q l c t) (hkw : Words.KwLaid w) :
    Calls Tryd.prog 6 #[.agg #[.int .u8 h.k, .int .u8 h.op, .int .i64 h.pl, .int .i64 h.n, .string h.name, .string h.arg, .string h.exn, .slice q l c], .string x] w fun e w' => e = .returned (.bool true) ∧ Below w.heap.size w w' := by
  unfold maxLen at hx
  have hbox : ∀ O : Obj, Below w.heap.size w (w.alloc O) := fun O => (Below.refl _ _).alloc (Nat.le_refl _) O
  have hgr := fun W (hb : Below w.heap.size w W) => Term.great_walk t h q l c W (hT.below hb)
  have hmy := fun W (hb : Below w.heap.size w W) (hw : wt t ≤ 4000) => Term.refMay_walk t h q l c W (hT.below hb) hw
  have hal := fun W (hb : Below w.heap.size w W) (hw : wt t ≤ 4000) => Term.refAll_walk (wt t) t h q l c w W (Nat.le_refl _) (by omega) hT hb
  have haw := fun W (hb : Below w.heap.size w W) => awake_walk W (hkw.below hb)
  obtain ⟨k, op, pl, nn, nm, ar, ex⟩ := h
  have hX : ∀ W, Below (w.alloc (.cells #[.int .u8 k, .int .u8 op, .int .i64 pl, .int .i64 nn, .string nm, .string ar, .string ex, .slice q l c] 27)).heap.size (w.alloc (.cells #[.int .u8 k, .int .u8 op, .int .i64 pl, .int .i64 nn, .string nm, .string ar, .string ex, .slice q l c] 27)) W → Below w.heap.size w W ∧ W.heap[w.heap.size]? = some (.cells #[.int .u8 k, .int .u8 op, .int .i64 pl, .int .i64 nn, .string nm, .string ar, .string ex, .slice q l c] 27 (0, 0)) :=
    fun W hb => ⟨(hbox _).trans (hb.mono (hbox _).size), (hb.block _ (by simp)).trans (heap_alloc_new w _)⟩
  have HGR := Lib.hid hgr; have HMY := Lib.hid hmy; have HALL := Lib.hid hal; have HAW := Lib.hid haw; have HX := Lib.hid hX; have HBOX := Lib.hid hbox; have HT := Lib.hid hT; have HKW := Lib.hid hkw
  clear hgr hmy hal haw hX hbox hT hkw
  go_enter Tryd.func6, Tryd.ntmps6
  go_wp2_with (fail)
  refine (HGR.out _ (HBOX.out _)).mono ?_
  rintro e w1 ⟨rfl, hb1⟩
  have HC1 := Lib.hid hb1
  obtain ⟨B1, y1⟩ := HX.out _ hb1
  obtain ⟨⟨b0, b1, b2, b3, b4, b5, b6, b7⟩, f0, f1, f2, f3, f4, f5, f6, f7⟩ := cells8' y1
  have bl := lt_of_block y1
  have HB1 := Lib.hid B1
  clear hb1 B1 y1
  cases hg : greatB t
  rotate_left
  · clear hg
    go_wp2_with (fail)
    refine (HAW.out _ HB1.out).mono ?_
    rintro e w2 ⟨rfl, hb2⟩
    have HB2 := Lib.hid (HB1.out.trans (hb2.mono HB1.out.size))
    clear hb2
    go_wp2_with (fail)
    go_ret
    exact ⟨rfl, HB2.out⟩
  have hwt := (Term.small_of hg).1
  have HWT := Lib.hid hwt
  clear hg hwt
  go_wp2_with (fail)
  refine (HMY.out _ HB1.out (by have := HWT.out; omega)).mono ?_
  rintro e w2 ⟨rfl, hb2⟩
  have hc2 := HC1.out.trans (hb2.mono HC1.out.size)
  clear b0 b1 b2 b3 b4 b5 b6 b7 f0 f1 f2 f3 f4 f5 f6 f7 bl
  obtain ⟨B2, y2⟩ := HX.out _ hc2
  obtain ⟨⟨b0, b1, b2, b3, b4, b5, b6, b7⟩, f0, f1, f2, f3, f4, f5, f6, f7⟩ := cells8' y2
  have bl := lt_of_block y2
  have HC2 := Lib.hid hc2; have HB2 := Lib.hid B2
  clear hb2 hc2 B2 y2 HC1 HB1
  cases hm : mayT t
  · clear hm
    go_wp2_with (fail)
    refine (HAW.out _ HB2.out).mono ?_
    rintro e w3 ⟨rfl, hb3⟩
    have HB3 := Lib.hid (HB2.out.trans (hb3.mono HB2.out.size))
    clear hb3
    go_wp2_with (fail)
    go_ret
    exact ⟨rfl, HB3.out⟩
  have HM := Lib.hid hm
  clear hm
  go_wp2_with (fail)
  refine (HALL.out _ HB2.out (by have := HWT.out; omega)).mono ?_
  rintro e w3 ⟨g, c', xs, rfl, _, _, hb3⟩
  have hc3 := HC2.out.trans (hb3.mono HC2.out.size)
  clear b0 b1 b2 b3 b4 b5 b6 b7 f0 f1 f2 f3 f4 f5 f6 f7 bl
  obtain ⟨B3, y3⟩ := HX.out _ hc3
  obtain ⟨⟨b0, b1, b2, b3, b4, b5, b6, b7⟩, f0, f1, f2, f3, f4, f5, f6, f7⟩ := cells8' y3
  have bl := lt_of_block y3
  have HC3 := Lib.hid hc3; have HB3 := Lib.hid B3
  clear hb3 hc3 B3 y3 HC2 HB2
  have hwt := HWT.out
  by_cases h3 : 300 < wt t
  · have h3i : (300 : Int) < (wt t : Int) := by omega
    go_wp2_with (fail)
    refine (HAW.out _ HB3.out).mono ?_
    rintro e w4 ⟨rfl, hb4⟩
    have HB4 := Lib.hid (HB3.out.trans (hb4.mono HB3.out.size))
    clear hb4
    go_wp2_with (fail)
    go_ret
    exact ⟨rfl, HB4.out⟩
  have h3i : ¬ (300 : Int) < (wt t : Int) := by omega
  by_cases h4 : 100 < x.size
  · have h4i : (100 : Int) < (x.size : Int) := by omega
    go_wp2_with (fail)
    refine (HAW.out _ HB3.out).mono ?_
    rintro e w4 ⟨rfl, hb4⟩
    have HB4 := Lib.hid (HB3.out.trans (hb4.mono HB3.out.size))
    clear hb4
    go_wp2_with (fail)
    go_ret
    exact ⟨rfl, HB4.out⟩
  have h4i : ¬ (100 : Int) < (x.size : Int) := by omega
  go_wp2_with (fail)
  have hx4 : x.size ≤ 100 := by omega
  have hz3 : (w3.alloc (.cells #[.int .u8 k, .int .u8 op, .int .i64 pl, .int .i64 nn, .string nm, .string ar, .string ex, .slice q l c] 27)).heap.size = w3.heap.size + 1 := by simp
  have a3 : Below w3.heap.size w3 (w3.alloc (.cells #[.int .u8 k, .int .u8 op, .int .i64 pl, .int .i64 nn, .string nm, .string ar, .string ex, .slice q l c] 27)) := (Below.refl _ _).alloc (Nat.le_refl _) _
  have a4 : Below (w3.heap.size + 1) (w3.alloc (.cells #[.int .u8 k, .int .u8 op, .int .i64 pl, .int .i64 nn, .string nm, .string ar, .string ex, .slice q l c] 27)) ((w3.alloc (.cells #[.int .u8 k, .int .u8 op, .int .i64 pl, .int .i64 nn, .string nm, .string ar, .string ex, .slice q l c] 27)).alloc (.cells #[.int .u8 11, .int .u8 0, .int .i64 0, .int .i64 0, .string ⟨#[]⟩, .string x, .string ⟨#[]⟩, .slice (some ⟨w3.heap.size, 0, none⟩) 1 1] 27)) := (Below.refl _ _).alloc (by omega) _
  have a34 := a3.trans (a4.mono (by omega : w3.heap.size ≤ _))
  have hl4 : ((w3.alloc (.cells #[.int .u8 k, .int .u8 op, .int .i64 pl, .int .i64 nn, .string nm, .string ar, .string ex, .slice q l c] 27)).alloc (.cells #[.int .u8 11, .int .u8 0, .int .i64 0, .int .i64 0, .string ⟨#[]⟩, .string x, .string ⟨#[]⟩, .slice (some ⟨w3.heap.size, 0, none⟩) 1 1] 27)).heap[w3.heap.size]? = some (.cells #[.int .u8 k, .int .u8 op, .int .i64 pl, .int .i64 nn, .string nm, .string ar, .string ex, .slice q l c] 27 (0, 0)) := (a4.block _ (by omega)).trans (heap_alloc_new w3 _)
  have hf4 : ((w3.alloc (.cells #[.int .u8 k, .int .u8 op, .int .i64 pl, .int .i64 nn, .string nm, .string ar, .string ex, .slice q l c] 27)).alloc (.cells #[.int .u8 11, .int .u8 0, .int .i64 0, .int .i64 0, .string ⟨#[]⟩, .string x, .string ⟨#[]⟩, .slice (some ⟨w3.heap.size, 0, none⟩) 1 1] 27)).heap[w3.heap.size + 1]? = some (.cells #[.int .u8 11, .int .u8 0, .int .i64 0, .int .i64 0, .string ⟨#[]⟩, .string x, .string ⟨#[]⟩, .slice (some ⟨w3.heap.size, 0, none⟩) 1 1] 27 (0, 0)) := by rw [← hz3]; exact heap_alloc_new (w3.alloc (.cells #[.int .u8 k, .int .u8 op, .int .i64 pl, .int .i64 nn, .string nm, .string ar, .string ex, .slice q l c] 27)) _
  have hc4 := HC3.out.trans (a34.mono HC3.out.size)
  have hw4 := HB3.out.trans (a34.mono HB3.out.size)
  have hF4 := fn_is (x := x) (HT.out.below hw4) hx4 hl4
  have hY : ∀ W, Below ((w3.alloc (.cells #[.int .u8 k, .int .u8 op, .int .i64 pl, .int .i64 nn, .string nm, .string ar, .string ex, .slice q l c] 27)).alloc (.cells #[.int .u8 11, .int .u8 0, .int .i64 0, .int .i64 0, .string ⟨#[]⟩, .string x, .string ⟨#[]⟩, .slice (some ⟨w3.heap.size, 0, none⟩) 1 1] 27)).heap.size ((w3.alloc (.cells #[.int .u8 k, .int .u8 op, .int .i64 pl, .int .i64 nn, .string nm, .string ar, .string ex, .slice q l c] 27)).alloc (.cells #[.int .u8 11, .int .u8 0, .int .i64 0, .int .i64 0, .string ⟨#[]⟩, .string x, .string ⟨#[]⟩, .slice (some ⟨w3.heap.size, 0, none⟩) 1 1] 27)) W → Below w.heap.size w W ∧ W.heap[w.heap.size]? = some (.cells #[.int .u8 k, .int .u8 op, .int .i64 pl, .int .i64 nn, .string nm, .string ar, .string ex, .slice q l c] 27 (0, 0)) ∧ W.heap[w3.heap.size + 1]? = some (.cells #[.int .u8 11, .int .u8 0, .int .i64 0, .int .i64 0, .string ⟨#[]⟩, .string x, .string ⟨#[]⟩, .slice (some ⟨w3.heap.size, 0, none⟩) 1 1] 27 (0, 0)) ∧ TmIs W ⟨11, 0, 0, 0, ⟨#[]⟩, x, ⟨#[]⟩⟩ (some ⟨w3.heap.size, 0, none⟩) 1 1 (fnT x t) :=
    fun W hb => ⟨hw4.trans (hb.mono hw4.size), (HX.out W (hc4.trans (hb.mono hc4.size))).2, (hb.block _ (by simp)).trans hf4, hF4.below hb⟩
  have hmf := Term.refMay_walk (fnT x t) _ _ 1 1 ((w3.alloc (.cells #[.int .u8 k, .int .u8 op, .int .i64 pl, .int .i64 nn, .string nm, .string ar, .string ex, .slice q l c] 27)).alloc (.cells #[.int .u8 11, .int .u8 0, .int .i64 0, .int .i64 0, .string ⟨#[]⟩, .string x, .string ⟨#[]⟩, .slice (some ⟨w3.heap.size, 0, none⟩) 1 1] 27)) hF4 (by rw [fn_wt]; omega)
  have HY := Lib.hid hY; have HMF := Lib.hid hmf; have HX4 := Lib.hid hx4
  clear hx4 hz3 a3 a4 a34 hl4 hf4 hc4 hw4 hF4 hY hmf HC3 HB3 HX HGR HMY HALL
  refine HMF.out.mono ?_
  rintro e w5 ⟨rfl, hb5⟩
  clear b0 b1 b2 b3 b4 b5 b6 b7 f0 f1 f2 f3 f4 f5 f6 f7 bl
  obtain ⟨B5, y5, y6, y7⟩ := HY.out _ hb5
  have HC5 := Lib.hid hb5; have HB5 := Lib.hid B5; have HY5 := Lib.hid (And.intro y5 (And.intro y6 y7))
  clear hb5 B5 y5 y6 y7
  cases hmm : mayT (fnT x t)
  · clear hmm
    go_wp2_with (fail)
    refine (HAW.out _ HB5.out).mono ?_
    rintro e w6 ⟨rfl, hb6⟩
    have HB6 := Lib.hid (HB5.out.trans (hb6.mono HB5.out.size))
    clear hb6
    go_wp2_with (fail)
    go_ret
    exact ⟨rfl, HB6.out⟩
  obtain ⟨⟨b0, b1, b2, b3, b4, b5, b6, b7⟩, f0, f1, f2, f3, f4, f5, f6, f7⟩ := cells8' HY5.out.1
  have bl := lt_of_block HY5.out.1
  have HMM := Lib.hid hmm
  clear hmm
  have z6 : (w5.alloc (.cells #[.int .u8 1, .int .u8 0, .int .i64 0, .int .i64 0, .string ⟨#[]⟩, .string ⟨#[]⟩, .string ⟨#[]⟩, .slice none 0 0, .int .u8 k, .int .u8 op, .int .i64 pl, .int .i64 nn, .string nm, .string ar, .string ex, .slice q l c] 27)).heap.size = w5.heap.size + 1 := by simp
  have z7 : ((w5.alloc (.cells #[.int .u8 1, .int .u8 0, .int .i64 0, .int .i64 0, .string ⟨#[]⟩, .string ⟨#[]⟩, .string ⟨#[]⟩, .slice none 0 0, .int .u8 k, .int .u8 op, .int .i64 pl, .int .i64 nn, .string nm, .string ar, .string ex, .slice q l c] 27)).alloc (.cells #[.int .u8 12, .int .u8 0, .int .i64 0, .int .i64 0, .string x, .string ⟨#[]⟩, .string ⟨#[]⟩, .slice (some ⟨w5.heap.size, 0, none⟩) 2 2] 27)).heap.size = w5.heap.size + 1 + 1 := by simp
  have z8 : (((w5.alloc (.cells #[.int .u8 1, .int .u8 0, .int .i64 0, .int .i64 0, .string ⟨#[]⟩, .string ⟨#[]⟩, .string ⟨#[]⟩, .slice none 0 0, .int .u8 k, .int .u8 op, .int .i64 pl, .int .i64 nn, .string nm, .string ar, .string ex, .slice q l c] 27)).alloc (.cells #[.int .u8 12, .int .u8 0, .int .i64 0, .int .i64 0, .string x, .string ⟨#[]⟩, .string ⟨#[]⟩, .slice (some ⟨w5.heap.size, 0, none⟩) 2 2] 27)).alloc (.cells #[] 9)).heap.size = w5.heap.size + 1 + 1 + 1 := by simp
  have d6 : Below w5.heap.size w5 (w5.alloc (.cells #[.int .u8 1, .int .u8 0, .int .i64 0, .int .i64 0, .string ⟨#[]⟩, .string ⟨#[]⟩, .string ⟨#[]⟩, .slice none 0 0, .int .u8 k, .int .u8 op, .int .i64 pl, .int .i64 nn, .string nm, .string ar, .string ex, .slice q l c] 27)) := (Below.refl _ _).alloc (Nat.le_refl _) _
  have d7 : Below (w5.heap.size + 1) (w5.alloc (.cells #[.int .u8 1, .int .u8 0, .int .i64 0, .int .i64 0, .string ⟨#[]⟩, .string ⟨#[]⟩, .string ⟨#[]⟩, .slice none 0 0, .int .u8 k, .int .u8 op, .int .i64 pl, .int .i64 nn, .string nm, .string ar, .string ex, .slice q l c] 27)) ((w5.alloc (.cells #[.int .u8 1, .int .u8 0, .int .i64 0, .int .i64 0, .string ⟨#[]⟩, .string ⟨#[]⟩, .string ⟨#[]⟩, .slice none 0 0, .int .u8 k, .int .u8 op, .int .i64 pl, .int .i64 nn, .string nm, .string ar, .string ex, .slice q l c] 27)).alloc (.cells #[.int .u8 12, .int .u8 0, .int .i64 0, .int .i64 0, .string x, .string ⟨#[]⟩, .string ⟨#[]⟩, .slice (some ⟨w5.heap.size, 0, none⟩) 2 2] 27)) := (Below.refl _ _).alloc (by omega) _
  have d8 : Below (w5.heap.size + 1 + 1) ((w5.alloc (.cells #[.int .u8 1, .int .u8 0, .int .i64 0, .int .i64 0, .string ⟨#[]⟩, .string ⟨#[]⟩, .string ⟨#[]⟩, .slice none 0 0, .int .u8 k, .int .u8 op, .int .i64 pl, .int .i64 nn, .string nm, .string ar, .string ex, .slice q l c] 27)).alloc (.cells #[.int .u8 12, .int .u8 0, .int .i64 0, .int .i64 0, .string x, .string ⟨#[]⟩, .string ⟨#[]⟩, .slice (some ⟨w5.heap.size, 0, none⟩) 2 2] 27)) (((w5.alloc (.cells #[.int .u8 1, .int .u8 0, .int .i64 0, .int .i64 0, .string ⟨#[]⟩, .string ⟨#[]⟩, .string ⟨#[]⟩, .slice none 0 0, .int .u8 k, .int .u8 op, .int .i64 pl, .int .i64 nn, .string nm, .string ar, .string ex, .slice q l c] 27)).alloc (.cells #[.int .u8 12, .int .u8 0, .int .i64 0, .int .i64 0, .string x, .string ⟨#[]⟩, .string ⟨#[]⟩, .slice (some ⟨w5.heap.size, 0, none⟩) 2 2] 27)).alloc (.cells #[] 9)) := (Below.refl _ _).alloc (by omega) _
  have d57 : Below w5.heap.size w5 (((w5.alloc (.cells #[.int .u8 1, .int .u8 0, .int .i64 0, .int .i64 0, .string ⟨#[]⟩, .string ⟨#[]⟩, .string ⟨#[]⟩, .slice none 0 0, .int .u8 k, .int .u8 op, .int .i64 pl, .int .i64 nn, .string nm, .string ar, .string ex, .slice q l c] 27)).alloc (.cells #[.int .u8 12, .int .u8 0, .int .i64 0, .int .i64 0, .string x, .string ⟨#[]⟩, .string ⟨#[]⟩, .slice (some ⟨w5.heap.size, 0, none⟩) 2 2] 27)).alloc (.cells #[] 9)) := (d6.trans (d7.mono (by omega))).trans (d8.mono (by omega))
  have hla : (((w5.alloc (.cells #[.int .u8 1, .int .u8 0, .int .i64 0, .int .i64 0, .string ⟨#[]⟩, .string ⟨#[]⟩, .string ⟨#[]⟩, .slice none 0 0, .int .u8 k, .int .u8 op, .int .i64 pl, .int .i64 nn, .string nm, .string ar, .string ex, .slice q l c] 27)).alloc (.cells #[.int .u8 12, .int .u8 0, .int .i64 0, .int .i64 0, .string x, .string ⟨#[]⟩, .string ⟨#[]⟩, .slice (some ⟨w5.heap.size, 0, none⟩) 2 2] 27)).alloc (.cells #[] 9)).heap[w5.heap.size]? = some (.cells #[.int .u8 1, .int .u8 0, .int .i64 0, .int .i64 0, .string ⟨#[]⟩, .string ⟨#[]⟩, .string ⟨#[]⟩, .slice none 0 0, .int .u8 k, .int .u8 op, .int .i64 pl, .int .i64 nn, .string nm, .string ar, .string ex, .slice q l c] 27 (0, 0)) := (d8.block _ (by omega)).trans ((d7.block _ (by omega)).trans (heap_alloc_new w5 _))
  have hlb : (((w5.alloc (.cells #[.int .u8 1, .int .u8 0, .int .i64 0, .int .i64 0, .string ⟨#[]⟩, .string ⟨#[]⟩, .string ⟨#[]⟩, .slice none 0 0, .int .u8 k, .int .u8 op, .int .i64 pl, .int .i64 nn, .string nm, .string ar, .string ex, .slice q l c] 27)).alloc (.cells #[.int .u8 12, .int .u8 0, .int .i64 0, .int .i64 0, .string x, .string ⟨#[]⟩, .string ⟨#[]⟩, .slice (some ⟨w5.heap.size, 0, none⟩) 2 2] 27)).alloc (.cells #[] 9)).heap[w5.heap.size + 1]? = some (.cells #[.int .u8 12, .int .u8 0, .int .i64 0, .int .i64 0, .string x, .string ⟨#[]⟩, .string ⟨#[]⟩, .slice (some ⟨w5.heap.size, 0, none⟩) 2 2] 27 (0, 0)) := (d8.block _ (by omega)).trans (by rw [← z6]; exact heap_alloc_new (w5.alloc (.cells #[.int .u8 1, .int .u8 0, .int .i64 0, .int .i64 0, .string ⟨#[]⟩, .string ⟨#[]⟩, .string ⟨#[]⟩, .slice none 0 0, .int .u8 k, .int .u8 op, .int .i64 pl, .int .i64 nn, .string nm, .string ar, .string ex, .slice q l c] 27)) _)
  have hle : (((w5.alloc (.cells #[.int .u8 1, .int .u8 0, .int .i64 0, .int .i64 0, .string ⟨#[]⟩, .string ⟨#[]⟩, .string ⟨#[]⟩, .slice none 0 0, .int .u8 k, .int .u8 op, .int .i64 pl, .int .i64 nn, .string nm, .string ar, .string ex, .slice q l c] 27)).alloc (.cells #[.int .u8 12, .int .u8 0, .int .i64 0, .int .i64 0, .string x, .string ⟨#[]⟩, .string ⟨#[]⟩, .slice (some ⟨w5.heap.size, 0, none⟩) 2 2] 27)).alloc (.cells #[] 9)).heap[w5.heap.size + 1 + 1]? = some (.cells #[] 9 (0, 0)) := by rw [← z7]; exact heap_alloc_new ((w5.alloc (.cells #[.int .u8 1, .int .u8 0, .int .i64 0, .int .i64 0, .string ⟨#[]⟩, .string ⟨#[]⟩, .string ⟨#[]⟩, .slice none 0 0, .int .u8 k, .int .u8 op, .int .i64 pl, .int .i64 nn, .string nm, .string ar, .string ex, .slice q l c] 27)).alloc (.cells #[.int .u8 12, .int .u8 0, .int .i64 0, .int .i64 0, .string x, .string ⟨#[]⟩, .string ⟨#[]⟩, .slice (some ⟨w5.heap.size, 0, none⟩) 2 2] 27)) _
  have hc7 := HC5.out.trans (d57.mono HC5.out.size)
  obtain ⟨B7, y7, v7, u7⟩ := HY.out _ hc7
  have hL7 := let_is (x := x) (HT.out.below B7) HX4.out hla
  have hal7 : Below (((w5.alloc (.cells #[.int .u8 1, .int .u8 0, .int .i64 0, .int .i64 0, .string ⟨#[]⟩, .string ⟨#[]⟩, .string ⟨#[]⟩, .slice none 0 0, .int .u8 k, .int .u8 op, .int .i64 pl, .int .i64 nn, .string nm, .string ar, .string ex, .slice q l c] 27)).alloc (.cells #[.int .u8 12, .int .u8 0, .int .i64 0, .int .i64 0, .string x, .string ⟨#[]⟩, .string ⟨#[]⟩, .slice (some ⟨w5.heap.size, 0, none⟩) 2 2] 27)).alloc (.cells #[] 9)).heap.size (((w5.alloc (.cells #[.int .u8 1, .int .u8 0, .int .i64 0, .int .i64 0, .string ⟨#[]⟩, .string ⟨#[]⟩, .string ⟨#[]⟩, .slice none 0 0, .int .u8 k, .int .u8 op, .int .i64 pl, .int .i64 nn, .string nm, .string ar, .string ex, .slice q l c] 27)).alloc (.cells #[.int .u8 12, .int .u8 0, .int .i64 0, .int .i64 0, .string x, .string ⟨#[]⟩, .string ⟨#[]⟩, .slice (some ⟨w5.heap.size, 0, none⟩) 2 2] 27)).alloc (.cells #[] 9)) ((((w5.alloc (.cells #[.int .u8 1, .int .u8 0, .int .i64 0, .int .i64 0, .string ⟨#[]⟩, .string ⟨#[]⟩, .string ⟨#[]⟩, .slice none 0 0, .int .u8 k, .int .u8 op, .int .i64 pl, .int .i64 nn, .string nm, .string ar, .string ex, .slice q l c] 27)).alloc (.cells #[.int .u8 12, .int .u8 0, .int .i64 0, .int .i64 0, .string x, .string ⟨#[]⟩, .string ⟨#[]⟩, .slice (some ⟨w5.heap.size, 0, none⟩) 2 2] 27)).alloc (.cells #[] 9)).alloc (.cells #[.int .u8 k, .int .u8 op, .int .i64 pl, .int .i64 nn, .string nm, .string ar, .string ex, .slice q l c] 27)) := (Below.refl _ _).alloc (Nat.le_refl _) _
  have hk7 := kids_lit (HT.out.below B7) 27
  rw [z8] at hk7
  have hfr := scopeFree_walk [t] _ 1 1 _ hk7 rfl (by unfold maxLen; omega) (by rw [wts_cons, wts_nil]; omega) ((HKW.out.below B7).below hal7)
  have hZ : ∀ W, Below ((((w5.alloc (.cells #[.int .u8 1, .int .u8 0, .int .i64 0, .int .i64 0, .string ⟨#[]⟩, .string ⟨#[]⟩, .string ⟨#[]⟩, .slice none 0 0, .int .u8 k, .int .u8 op, .int .i64 pl, .int .i64 nn, .string nm, .string ar, .string ex, .slice q l c] 27)).alloc (.cells #[.int .u8 12, .int .u8 0, .int .i64 0, .int .i64 0, .string x, .string ⟨#[]⟩, .string ⟨#[]⟩, .slice (some ⟨w5.heap.size, 0, none⟩) 2 2] 27)).alloc (.cells #[] 9)).alloc (.cells #[.int .u8 k, .int .u8 op, .int .i64 pl, .int .i64 nn, .string nm, .string ar, .string ex, .slice q l c] 27)).heap.size ((((w5.alloc (.cells #[.int .u8 1, .int .u8 0, .int .i64 0, .int .i64 0, .string ⟨#[]⟩, .string ⟨#[]⟩, .string ⟨#[]⟩, .slice none 0 0, .int .u8 k, .int .u8 op, .int .i64 pl, .int .i64 nn, .string nm, .string ar, .string ex, .slice q l c] 27)).alloc (.cells #[.int .u8 12, .int .u8 0, .int .i64 0, .int .i64 0, .string x, .string ⟨#[]⟩, .string ⟨#[]⟩, .slice (some ⟨w5.heap.size, 0, none⟩) 2 2] 27)).alloc (.cells #[] 9)).alloc (.cells #[.int .u8 k, .int .u8 op, .int .i64 pl, .int .i64 nn, .string nm, .string ar, .string ex, .slice q l c] 27)) W → Below w.heap.size w W ∧ W.heap[w3.heap.size + 1]? = some (.cells #[.int .u8 11, .int .u8 0, .int .i64 0, .int .i64 0, .string ⟨#[]⟩, .string x, .string ⟨#[]⟩, .slice (some ⟨w3.heap.size, 0, none⟩) 1 1] 27 (0, 0)) ∧ W.heap[w5.heap.size + 1]? = some (.cells #[.int .u8 12, .int .u8 0, .int .i64 0, .int .i64 0, .string x, .string ⟨#[]⟩, .string ⟨#[]⟩, .slice (some ⟨w5.heap.size, 0, none⟩) 2 2] 27 (0, 0)) ∧ W.heap[w5.heap.size + 1 + 1]? = some (.cells #[] 9 (0, 0)) ∧ TmIs W ⟨11, 0, 0, 0, ⟨#[]⟩, x, ⟨#[]⟩⟩ (some ⟨w3.heap.size, 0, none⟩) 1 1 (fnT x t) ∧ TmIs W ⟨12, 0, 0, 0, x, ⟨#[]⟩, ⟨#[]⟩⟩ (some ⟨w5.heap.size, 0, none⟩) 2 2 (letT x t) :=
    fun W hb => by
      have hb' := hal7.trans (hb.mono hal7.size)
      exact ⟨B7.trans (hb'.mono B7.size), (hb'.block _ (lt_of_block v7)).trans v7, (hb'.block _ (lt_of_block hlb)).trans hlb, (hb'.block _ (lt_of_block hle)).trans hle, u7.below hb', hL7.below hb'⟩
  obtain ⟨⟨p0, p1, p2, p3, p4, p5, p6, p7⟩, m0, m1, m2, m3, m4, m5, m6, m7⟩ := cells8' y7
  have pl7 := lt_of_block y7
  have HFR := Lib.hid hfr; have HZ := Lib.hid hZ
  clear z6 z7 z8 d6 d7 d8 d57 hla hlb hle hc7 B7 y7 v7 u7 hL7 hal7 hk7 hfr hZ HY HMF HC5 HY5 HB5
  go_wp2_with (fail)
  refine HFR.out.mono ?_
  rintro e w8 ⟨v8, rfl, hn8, hb8⟩
  obtain ⟨B8, y8, y9, y10, y11, y12⟩ := HZ.out w8 hb8
  have HB8 := Lib.hid B8
  clear b0 b1 b2 b3 b4 b5 b6 b7 f0 f1 f2 f3 f4 f5 f6 f7 bl p0 p1 p2 p3 p4 p5 p6 p7 m0 m1 m2 m3 m4 m5 m6 m7 pl7
  have hlw : (metF freeP [t]).length ≤ 400 := by have := met_len freeP [t]; rw [wts_cons, wts_nil] at this; omega
  generalize hwas : metF freeP [t] = was at *
  obtain ⟨pw, dw, rfl, hwm⟩ := hn8.slice
  have hws := hn8.strs.2
  unfold maxLen at hwm
  have HW := Lib.hid (And.intro hwas hws); have HYY := Lib.hid (And.intro y8 (And.intro y9 (And.intro y11 y12))); have HE := Lib.hid y10; have HLW := Lib.hid hlw
  clear hn8 hb8 B8 y8 y9 y10 y11 y12 hwas hws hlw HZ HFR
  go_wp2_with (fail)
  go_loopw [7, 9] (fun v i wr => ∃ j : Nat, j ≤ was.length ∧ i = .int .i64 j ∧ Hid (LeftI w8 (w5.heap.size + 1 + 1) wr v (butF x (was.take j)))) (fun _ i _ => was.length - (intOf i).toNat)
  case atStart => exact ⟨0, Nat.zero_le _, rfl, Lib.hid ⟨Below.refl _ _, lt_of_block HE.out, .inl ⟨rfl, by rw [List.take_zero]; rfl, HE.out⟩⟩⟩
  case round =>
    obtain ⟨j, hj, rfl, HLI⟩ := hrel
    by_cases hlt : j < was.length
    · obtain ⟨b, o, rfl, hcs⟩ := (HW.out.2.below HLI.out.below).get j hlt
      have hck := hcs j hlt
      have htk := butF_take x was j hlt
      have hbl := World.block_lt_of_cell? wr _ hck
      simp only at hbl
      clear hcs
      generalize hy : sel was j = y at *
      have hln : (butF x (was.take j)).length ≤ 90000 := by
        unfold butF
        have h1 := List.length_filter_le (fun y => !decide (y = x)) (was.take j)
        have h2 := List.length_take_le j was
        have := HLW.out
        omega
      have HTK := Lib.hid htk; have HLN := Lib.hid hln
      clear hy htk hln
      by_cases hyx : y = x
      · have n1 : (y.toList == x.toList) = true := str_yes hyx
        have n2 : (y.toList != x.toList) = false := by rw [bne, n1]; rfl
        have ht := HTK.out
        rw [if_pos hyx] at ht
        have hli := HLI.out
        rw [← ht] at hli
        have HL2 := Lib.hid hli
        clear hyx ht hli
        go_wp2_with (fail)
        go_roundw
        case rel => exact ⟨j + 1, by omega, by go_num, HL2⟩
        case measure => simp [intOf]; omega
      · have n1 : (y.toList == x.toList) = false := str_no hyx
        have n2 : (y.toList != x.toList) = true := by rw [bne, n1]; rfl
        have ht := HTK.out
        rw [if_neg hyx] at ht
        have hal := HLI.out.later ((Below.refl wr.heap.size wr).alloc (Nat.le_refl _) (.cells #[.string y] 9))
        have HT2 := Lib.hid ht; have HAL := Lib.hid hal
        clear hyx ht hal
        go_wp2_with (at_builtin; go_loud (refine left_append (x := y) rfl (.tmp 61) (.tmp 66) rfl _ _ rfl HAL.out wr.heap.size rfl (by rw [World.cell?_alloc_mark]; rfl) HLN.out ?_); intro v9 w9 h9; rw [← HT2.out] at h9; have H9 := Lib.hid h9; clear h9)
        go_roundw
        case rel => exact ⟨j + 1, by omega, by go_num, H9⟩
        case measure => simp [intOf]; omega
    · obtain rfl : j = was.length := by omega
      have hli := HLI.out
      rw [List.take_length] at hli
      have hb9 := hli.below
      have y8 := (hb9.block _ (lt_of_block HYY.out.1)).trans HYY.out.1
      have y9 := (hb9.block _ (lt_of_block HYY.out.2.1)).trans HYY.out.2.1
      have t9 := HYY.out.2.2.1.below hb9
      have l9 := HYY.out.2.2.2.below hb9
      have B9 := HB8.out.trans (hb9.mono HB8.out.size)
      have hkf := kids_lit t9 27
      have alf : ∀ O : Obj, Below wr.heap.size wr (wr.alloc O) := fun O => (Below.refl _ _).alloc (Nat.le_refl _) O
      have hlm := let_may x t HM.out (by have := HWT.out; omega) HMM.out
      have hff := scopeFree_walk [fnT x t] _ 1 1 _ hkf rfl (by unfold maxLen; omega) (by rw [wts_cons, wts_nil, fn_wt]; have := HWT.out; omega) ((HKW.out.below B9).below (alf _))
      rw [fn_free x t HM.out HMM.out, HW.out.1] at hff
      have hfl := fun W (hb : Below wr.heap.size wr W) => scopeFree_walk [letT x t] _ 1 1 _ (kids_lit (l9.below hb) 27) rfl (by unfold maxLen; omega) (by rw [wts_cons, wts_nil, let_wt]; have := HWT.out; omega) (((HKW.out.below B9).below hb).below ((Below.refl W.heap.size W).alloc (Nat.le_refl _) _))
      rw [let_free x t HM.out hlm, HW.out.1] at hfl
      obtain ⟨⟨b0, b1, b2, b3, b4, b5, b6, b7⟩, f0, f1, f2, f3, f4, f5, f6, f7⟩ := cells8' y8
      have bl := lt_of_block y8
      have HLI9 := Lib.hid hli; have HY9 := Lib.hid y9; have HB9 := Lib.hid B9; have HFF := Lib.hid hff; have HFL := Lib.hid hfl; have HALF := Lib.hid alf
      clear hli hb9 y8 y9 t9 l9 B9 hkf alf hlm hff hfl
      go_wp2_with (fail)
      refine HFF.out.mono ?_
      rintro e w10 ⟨v10, rfl, hn10, hb10⟩
      have hb10' := (HALF.out _).trans (hb10.mono (HALF.out _).size)
      have hsm := ref_same hn10 (HLI9.out.later hb10').nm
      rw [decide_eq_true rfl] at hsm
      have HS := Lib.hid hsm; have HB10 := Lib.hid hb10'
      clear hn10 hb10 hb10' hsm b0 b1 b2 b3 b4 b5 b6 b7 f0 f1 f2 f3 f4 f5 f6 f7 bl
      go_wp2_with (fail)
      refine HS.out.mono ?_
      rintro e w11 ⟨rfl, hb11⟩
      have hb11' := HB10.out.trans (hb11.mono HB10.out.size)
      have y11 := (hb11'.block _ (lt_of_block HY9.out)).trans HY9.out
      obtain ⟨⟨b0, b1, b2, b3, b4, b5, b6, b7⟩, f0, f1, f2, f3, f4, f5, f6, f7⟩ := cells8' y11
      have bl := lt_of_block y11
      have HB11 := Lib.hid hb11'
      clear hb11 hb11' y11
      go_wp2_with (fail)
      refine (HFL.out w11 HB11.out).mono ?_
      rintro e w12 ⟨v12, rfl, hn12, hb12⟩
      have hb12' := HB11.out.trans (((Below.refl w11.heap.size w11).alloc (Nat.le_refl _) _).trans (hb12.mono (by simp)) |>.mono HB11.out.size)
      have hsm := ref_same hn12 (HLI9.out.later hb12').nm
      rw [decide_eq_true rfl] at hsm
      have HS := Lib.hid hsm; have HB12 := Lib.hid hb12'
      clear hn12 hb12 hb12' hsm b0 b1 b2 b3 b4 b5 b6 b7 f0 f1 f2 f3 f4 f5 f6 f7 bl
      go_wp2_with (fail)
      refine HS.out.mono ?_
      rintro e w13 ⟨rfl, hb13⟩
      have HB13 := Lib.hid (HB9.out.trans ((HB12.out.trans (hb13.mono HB12.out.size)).mono HB9.out.size))
      clear hb13
      go_wp2_with (fail)
      refine (HAW.out _ HB13.out).mono ?_
      rintro e w14 ⟨rfl, hb14⟩
      have HB14 := Lib.hid (HB13.out.trans (hb14.mono HB13.out.size))
      clear hb14
      go_wp2_with (fail)
      go_ret
      exact ⟨rfl, HB14.out⟩
end Scope
end Go.Proofs.YtkcadkjpneoobaaDoor
