/- Atoms as memory holds them; which are none; their order, as the program tells it. -/
import Derived.Test.YtggabjmfdnfckaaGreatDoorEfMath
import Derived.Test.YtggabjmfdnfckaaGreatDoorEfWords
import Derived.Test.YtggabjmfdnfckaaGreatDoorEfShelf
import Derived.Test.YtggabjmfdnfckaaGreatDoorEfShelfG
import Derived.Laws.StructEq
import Derived.Maps.AppendAt
import Derived.IntWalk
import Derived.OrdersHeld
import Derived.LoopTactic
namespace Go.Proofs.YtggabjmfdnfckaaGreatDoor
open Go.RowKit
set_option linter.unusedVariables false
set_option linter.unusedSimpArgs false
namespace Effect

/-- An atom's cells. -/
def enc (a : At) : List Value := [.int .u8 a.k, .int .i64 a.r, .string a.x]
structure AtOk (a : At) : Prop where
  k : 0 ≤ a.k ∧ a.k ≤ 255
  r : -9223372036854775808 ≤ a.r ∧ a.r ≤ 9223372036854775807
  x : a.x.size ≤ maxLen
def flat (l : List At) : List Value := l.flatMap enc
theorem flat_cons (a : At) (l : List At) : flat (a :: l) = enc a ++ flat l := rfl
theorem flat_append (l m : List At) : flat (l ++ m) = flat l ++ flat m := by unfold flat; rw [List.flatMap_append]
theorem flat_len : ∀ l, (flat l).length = l.length * 3
  | [] => rfl
  | a :: l => by rw [flat_cons, List.length_append, flat_len l, List.length_cons]; show 3 + _ = _; omega
def aget (l : List At) (i : Nat) : At := l.getD i default
theorem aget_at {l : List At} {i : Nat} (h : i < l.length) : l[i]? = some (aget l i) := by
  unfold aget; rw [List.getD_eq_getElem?_getD, List.getElem?_eq_getElem h]; rfl
theorem aget_mem {l : List At} {i : Nat} (h : i < l.length) : aget l i ∈ l := List.mem_of_getElem? (aget_at h)
theorem flat_get : ∀ (l : List At) (i : Nat), i < l.length → ∀ j, j < 3 → (flat l)[i * 3 + j]? = (enc (aget l i))[j]?
  | a :: l, 0, _, j, hj => by
    rw [flat_cons, Nat.zero_mul, Nat.zero_add, List.getElem?_append_left (by show j < 3; exact hj)]; rfl
  | a :: l, i + 1, h, j, hj => by
    rw [flat_cons, List.getElem?_append_right (by show 3 ≤ _; omega)]
    have := flat_get l i (by simpa using h) j hj
    rw [show (i + 1) * 3 + j - (enc a).length = i * 3 + j by show (i + 1) * 3 + j - 3 = _; omega, this]
    rfl
/-- A row of atoms. -/
def AtsAt (w : World) (p : Option Addr) (l : List At) : Prop := l = [] ∨ ∃ b o, p = some ⟨b, o, none⟩ ∧ ∀ i, i < l.length → w.cell? ⟨b, o + i * 3, none⟩ = some (.int .u8 (aget l i).k) ∧ w.cell? ⟨b, o + i * 3 + 1, none⟩ = some (.int .i64 (aget l i).r) ∧ w.cell? ⟨b, o + i * 3 + 2, none⟩ = some (.string (aget l i).x)
theorem AtsAt.below {w W : World} {p : Option Addr} {l : List At} (h : AtsAt w p l) (hb : Below w.heap.size w W) : AtsAt W p l := by
  rcases h with rfl | ⟨b, o, hp, hc⟩
  · exact .inl rfl
  · refine .inr ⟨b, o, hp, fun i hi => ?_⟩
    obtain ⟨h0, h1, h2⟩ := hc i hi
    have hl : b < w.heap.size := World.block_lt_of_cell? w _ h0
    exact ⟨(hb.cell (p := ⟨b, _, none⟩) hl).trans h0, (hb.cell (p := ⟨b, _, none⟩) hl).trans h1, (hb.cell (p := ⟨b, _, none⟩) hl).trans h2⟩
theorem AtsAt.get {w : World} {p : Option Addr} {l : List At} (h : AtsAt w p l) (i : Nat) (hi : i < l.length) : ∃ b o, p = some ⟨b, o, none⟩ ∧ w.cell? ⟨b, o + i * 3, none⟩ = some (.int .u8 (aget l i).k) ∧ w.cell? ⟨b, o + i * 3 + 1, none⟩ = some (.int .i64 (aget l i).r) ∧ w.cell? ⟨b, o + i * 3 + 2, none⟩ = some (.string (aget l i).x) := by
  rcases h with rfl | ⟨b, o, hp, hc⟩
  · simp at hi
  · exact ⟨b, o, hp, hc i hi⟩
theorem own_slice {w : World} {base e size n : Nat} {v : Value} {xs : List Value} (h : w.ownsRow base e size v n xs) : ∃ a c, v = .slice a n c ∧ c ≤ maxLen ∧ n ≤ c := by
  rcases h.2 with ⟨hv, h0⟩ | ⟨g, cap, _, hv, _, _, h1, h2, _⟩
  · subst h0; exact ⟨none, 0, hv, by unfold maxLen; omega, Nat.le_refl _⟩
  · exact ⟨_, cap, hv, h2, h1⟩
theorem own_below {W W' : World} {B e s n : Nat} {v : Value} {xs : List Value} (h : W.ownsRow B e s v n xs) (hb : Below W.heap.size W W') : W'.ownsRow B e s v n xs := by
  refine ⟨h.1, h.2.imp id ?_⟩
  rintro ⟨g, cap, cur, rfl, hg, hh, r⟩
  exact ⟨g, cap, cur, rfl, hg, (hb.block g (by
    rcases Nat.lt_or_ge g W.heap.size with q | q
    · exact q
    · rw [Array.getElem?_eq_none q] at hh; cases hh)).trans hh, r⟩
theorem own_lower {W : World} {B B' e s n : Nat} {v : Value} {xs : List Value} (h : W.ownsRow B e s v n xs) (hB : B' ≤ B) : W.ownsRow B' e s v n xs :=
  ⟨h.1, h.2.imp id fun ⟨g, cap, cur, h1, h2, h3⟩ => ⟨g, cap, cur, h1, Nat.le_trans hB h2, h3⟩⟩
theorem AtsAt.of_own {W : World} {B n c : Nat} {a : Option Addr} {l : List At} (hn : l.length = n) (h : W.ownsRow B 47 3 (.slice a n c) n (flat l)) : AtsAt W a l := by
  subst hn
  by_cases h0 : l = []
  · exact .inl h0
  · have hpos : 0 < l.length := List.length_pos_iff.2 h0
    rcases h.2 with ⟨_, h0'⟩ | ⟨g, cap, cur, hv, _⟩
    · omega
    · injection hv with hv1 hv2 hv3
      subst hv1
      have key : ∀ i, i < l.length → ∀ j, j < 3 → ∀ u, (enc (aget l i))[j]? = some u → W.cell? ⟨g, i * 3 + j, none⟩ = some u := fun i hi j hj u hu => by
        have := h.cells (g := g) rfl (i * 3 + j) u (by rw [flat_get l i hi j hj]; exact hu)
        rw [Addr.add_lit] at this
        simpa using this
      refine .inr ⟨g, 0, rfl, fun i hi => ?_⟩
      rw [Nat.zero_add]
      exact ⟨key i hi 0 (by omega) _ rfl, key i hi 1 (by omega) _ rfl, key i hi 2 (by omega) _ rfl⟩
theorem lt_of_block {w : World} {b : Nat} {o : Obj} (h : w.heap[b]? = some o) : b < w.heap.size := by
  rcases Nat.lt_or_ge b w.heap.size with q | q
  · exact q
  · rw [Array.getElem?_eq_none q] at h; cases h
theorem heap_alloc_new (W : World) (o : Obj) : (W.alloc o).heap[W.heap.size]? = some o := by
  show (W.heap.push o)[W.heap.size]? = some o
  rw [Array.getElem?_push]; simp
theorem c3 {W : World} {N : Nat} {a b c : Value} {ty : TypeId} (h : W.heap[N]? = some (.cells #[a, b, c] ty (0, 0))) :
    (W.cell? ⟨N, 0, none⟩ = some a ∧ W.cell? ⟨N, 1, none⟩ = some b ∧ W.cell? ⟨N, 2, none⟩ = some c) ∧ (W.frozen? ⟨N, 0, none⟩ = false ∧ W.frozen? ⟨N, 1, none⟩ = false ∧ W.frozen? ⟨N, 2, none⟩ = false) ∧ N < W.heap.size := by
  refine ⟨?_, ?_, lt_of_block h⟩ <;> simp [World.cell?, World.frozen?, h]
theorem al_new {W : World} (o : Obj) : Below W.heap.size W (W.alloc o) := (Below.refl _ _).alloc (Nat.le_refl _) o
theorem at_new {w : World} {o : Obj} {N : Nat} (hN : N = w.heap.size) : (w.alloc o).heap[N]? = some o := by subst hN; exact heap_alloc_new w o
theorem at_more {w : World} {o o' : Obj} {N : Nat} (h : w.heap[N]? = some o) : (w.alloc o').heap[N]? = some o := ((al_new o').block _ (lt_of_block h)).trans h
theorem below_then {B : Nat} {a w1 w2 : World} (h : Below B a w1) (hb : Below w1.heap.size w1 w2) (hB : B ≤ w1.heap.size) : Below B a w2 := h.trans (hb.mono hB)
theorem below_row {B : Nat} {a w1 w2 : World} {O : Obj} (h : Below B a w1) (hb : Below (w1.alloc O).heap.size (w1.alloc O) w2) (hB : B ≤ w1.heap.size) : Below B a w2 := h.trans (((al_new O).trans (hb.mono (by simp))).mono hB)
theorem ret_bool {a b : Bool} (h : a = b) : Ending.returned (.bool a) = .returned (.bool b) := by rw [h]
theorem ret_i64 {a b : Int} (h : a = b) : Ending.returned (.int .i64 a) = .returned (.int .i64 b) := by rw [h]
theorem str_eq {a b : ByteArray} (h : a = b) : (a.toList == b.toList) = true := by rw [h]; simp
theorem str_ne {a b : ByteArray} (h : a ≠ b) : (a.toList == b.toList) = false := by
  rw [beq_eq_false_iff_ne]
  exact fun e => h (toList_inj e)

theorem emp (x : ByteArray) : decide (x = ByteArray.empty) = x.toList.isEmpty := by
  by_cases h : x = ByteArray.empty
  · rw [decide_eq_true h, h, Lib.toList_data]; rfl
  · rw [decide_eq_false h]
    symm
    rw [List.isEmpty_eq_false_iff]
    intro e
    exact h (toList_inj (e.trans (by rw [Lib.toList_data]; rfl)))
set_option maxHeartbeats 1600000 in
theorem inRegion_walk (a : At) (w : World) : Calls Tryz.prog 28 #[.agg #[.int .u8 a.k, .int .i64 a.r, .string a.x]] w fun e w' => e = .returned (.bool (decide (a.k ≠ 3))) ∧ Below w.heap.size w w' := by
  obtain ⟨k, r, x⟩ := a
  have HB := Lib.hid (fun O => al_new (W := w) O)
  by_cases h : k = 3
  · subst h
    go_enter Tryz.func28, Tryz.ntmps28
    go_wp2
    go_ret
    exact ⟨rfl, HB.out _⟩
  · have h1 : (k == 3) = false := by simpa using h
    have h2 : (k != 3) = decide (k ≠ 3) := by rw [decide_eq_true h, bne, h1]; rfl
    have H2 := Lib.hid h2
    clear h2
    go_enter Tryz.func28, Tryz.ntmps28
    go_wp2
    go_ret
    exact ⟨ret_bool H2.out, HB.out _⟩
set_option maxHeartbeats 3200000 in
theorem odd_walk (a : At) (w : World) (hx : a.x.size ≤ maxLen) : Calls Tryz.prog 39 #[.agg #[.int .u8 a.k, .int .i64 a.r, .string a.x]] w fun e w' => e = .returned (.bool (!atomB a)) ∧ Below w.heap.size w w' := by
  have hat : ∀ b, atomB a = b → (!atomB a) = !b := fun b h => by rw [h]
  unfold atomB at hat
  obtain ⟨k, r, x⟩ := a
  have HB := Lib.hid (fun O => al_new (W := w) O)
  simp only at hat hx
  by_cases h3 : k = 3
  · subst h3
    rw [if_pos rfl] at hat
    by_cases hr : r = 0
    · subst hr
      have hex := fun O N (hN : N = (w.alloc O).heap.size) => Words.exn_at x 9 N (w.alloc O) hN hx
      have ha : (!Words.exnB x) = !(if (3 : Int) = 3 then decide ((0 : Int) = 0) && Words.exnB x else (decide ((3 : Int) = 1) || decide ((3 : Int) = 2)) && decide ((0 : Int) ≤ 0) && decide (x = ByteArray.empty)) := by simp
      have HE := Lib.hid hex; have HA := Lib.hid ha
      clear hex hat hx ha
      go_enter Tryz.func39, Tryz.ntmps39
      go_wp2_with (fail)
      refine (HE.out _ _ (by simp)).mono ?_
      rintro e w1 ⟨rfl, hb1⟩
      have H1 := Lib.hid (below_then (HB.out _) hb1 (by simp))
      clear hb1
      go_wp2_with (fail)
      go_ret
      exact ⟨ret_bool (by unfold atomB; exact HA.out), H1.out⟩
    · have hr1 : (r == 0) = false := by simpa using hr
      have ha : true = !(if (3 : Int) = 3 then decide (r = 0) && Words.exnB x else (decide ((3 : Int) = 1) || decide ((3 : Int) = 2)) && decide (0 ≤ r) && decide (x = ByteArray.empty)) := by simp [hr]
      have HA := Lib.hid ha
      clear hat hx ha hr
      have hr2 : (r != 0) = true := by rw [bne, hr1]; rfl
      go_enter Tryz.func39, Tryz.ntmps39
      go_wp2_with (fail)
      go_ret
      exact ⟨ret_bool (by unfold atomB; exact HA.out), HB.out _⟩
  · have h3' : (k == 3) = false := by simpa using h3
    by_cases h12 : k = 1 ∨ k = 2
    · by_cases hr : r < 0
      · have ha : true = !(if k = 3 then decide (r = 0) && Words.exnB x else (decide (k = 1) || decide (k = 2)) && decide (0 ≤ r) && decide (x = ByteArray.empty)) := by rw [if_neg h3, decide_eq_false (show ¬ 0 ≤ r by omega)]; simp
        have HA := Lib.hid ha
        clear hat hx ha h3
        rcases h12 with rfl | rfl
        all_goals
          go_enter Tryz.func39, Tryz.ntmps39
          go_wp2_with (fail)
          go_ret
          exact ⟨ret_bool (by unfold atomB; exact HA.out), HB.out _⟩
      · have ha : (!x.toList.isEmpty) = !(if k = 3 then decide (r = 0) && Words.exnB x else (decide (k = 1) || decide (k = 2)) && decide (0 ≤ r) && decide (x = ByteArray.empty)) := by rw [if_neg h3, ← emp x, decide_eq_true (show 0 ≤ r by omega)]; rcases h12 with rfl | rfl <;> simp
        have HA := Lib.hid ha
        clear hat hx ha h3
        rcases h12 with rfl | rfl
        all_goals
          go_enter Tryz.func39, Tryz.ntmps39
          go_wp2_with (fail)
          go_ret
          exact ⟨ret_bool (by unfold atomB; exact HA.out), HB.out _⟩
    · have h1' : (k == 1) = false := by simp; omega
      have h2' : (k == 2) = false := by simp; omega
      have ha : true = !(if k = 3 then decide (r = 0) && Words.exnB x else (decide (k = 1) || decide (k = 2)) && decide (0 ≤ r) && decide (x = ByteArray.empty)) := by rw [if_neg h3, decide_eq_false (show ¬ k = 1 by omega), decide_eq_false (show ¬ k = 2 by omega)]; rfl
      have HA := Lib.hid ha
      clear hat hx ha h3 h12
      go_enter Tryz.func39, Tryz.ntmps39
      go_wp2_with (fail)
      go_ret
      exact ⟨ret_bool (by unfold atomB; exact HA.out), HB.out _⟩
/-! ### How two are compared -/
set_option maxHeartbeats 1600000 in
theorem nanU_walk (k : Int) (w : World) : Calls Tryz.prog 87 #[.int .u8 k] w fun e w' => e = .returned (.bool false) ∧ w' = w := by
  have h : (k != k) = false := by simp
  go_enter Tryz.func87, Tryz.ntmps87
  go_wp2
  go_ret
  exact ⟨rfl, rfl⟩
set_option maxHeartbeats 1600000 in
theorem nanS_walk (k : ByteArray) (w : World) : Calls Tryz.prog 89 #[.string k] w fun e w' => e = .returned (.bool false) ∧ w' = w := by
  have h : (k.toList == k.toList) = true := by simp
  go_enter Tryz.func89, Tryz.ntmps89
  go_wp2
  go_ret
  exact ⟨rfl, rfl⟩
def cmpI (x y : Int) : Int := if x < y then -1 else if y < x then 1 else 0
def cmpS (x y : ByteArray) : Int := if lessS x y = true then -1 else if lessS y x = true then 1 else 0
set_option maxRecDepth 100000 in
set_option maxHeartbeats 3200000 in
theorem cmpU_walk (x y : Int) (w : World) : Calls Tryz.prog 57 #[.int .u8 x, .int .u8 y] w fun e w' => e = .returned (.int .i64 (cmpI x y)) ∧ w' = w := by
  have HX := Lib.hid (fun W => nanU_walk x W); have HY := Lib.hid (fun W => nanU_walk y W)
  have HC := Lib.hid (show cmpI x y = if x < y then -1 else if y < x then 1 else 0 from rfl)
  rcases Int.lt_trichotomy x y with h | h | h
  · have H := Lib.hid h
    go_enter Tryz.func57, Tryz.ntmps57
    go_wp2_with (fail)
    refine (HX.out _).mono ?_
    rintro e w1 ⟨rfl, rfl⟩
    go_wp2_with (fail)
    refine (HY.out _).mono ?_
    rintro e w1 ⟨rfl, rfl⟩
    go_wp2_with (fail)
    go_ret
    refine ⟨ret_i64 ?_, rfl⟩
    rw [HC.out]
    rw [if_pos H.out]
  · subst h
    go_enter Tryz.func57, Tryz.ntmps57
    go_wp2_with (fail)
    refine (HX.out _).mono ?_
    rintro e w1 ⟨rfl, rfl⟩
    go_wp2_with (fail)
    refine (HY.out _).mono ?_
    rintro e w1 ⟨rfl, rfl⟩
    go_wp2_with (fail)
    go_ret
    refine ⟨ret_i64 ?_, rfl⟩
    rw [HC.out]
    rw [if_neg (by omega), if_neg (by omega)]
  · have H := Lib.hid h
    go_enter Tryz.func57, Tryz.ntmps57
    go_wp2_with (fail)
    refine (HX.out _).mono ?_
    rintro e w1 ⟨rfl, rfl⟩
    go_wp2_with (fail)
    refine (HY.out _).mono ?_
    rintro e w1 ⟨rfl, rfl⟩
    go_wp2_with (fail)
    go_ret
    refine ⟨ret_i64 ?_, rfl⟩
    rw [HC.out]
    rw [if_neg (by have := H.out; omega), if_pos H.out]
set_option maxHeartbeats 3200000 in
theorem cmpS_walk (x y : ByteArray) (w : World) : Calls Tryz.prog 59 #[.string x, .string y] w fun e w' => e = .returned (.int .i64 (cmpS x y)) ∧ w' = w := by
  have HX := Lib.hid (fun W => nanS_walk x W); have HY := Lib.hid (fun W => nanS_walk y W)
  have hc : cmpS x y = if lessS x y = true then -1 else if lessS y x = true then 1 else 0 := rfl
  unfold lessS at hc
  have HC := Lib.hid hc
  cases h1 : Op.bytesLess x.toList y.toList
  · cases h2 : Op.bytesLess y.toList x.toList
    · have he : (x.toList == y.toList) = true := by rw [less_total _ _ h1 h2]; simp
      clear hc
      go_enter Tryz.func59, Tryz.ntmps59
      go_wp2_with (fail)
      refine (HX.out _).mono ?_
      rintro e w1 ⟨rfl, rfl⟩
      go_wp2_with (fail)
      refine (HY.out _).mono ?_
      rintro e w1 ⟨rfl, rfl⟩
      go_wp2_with (fail)
      go_ret
      refine ⟨ret_i64 ?_, rfl⟩
      rw [HC.out, h1, h2]
      rfl
    · have he : (x.toList == y.toList) = false := by
        rw [beq_eq_false_iff_ne]; intro e; rw [e, less_irrefl] at h2; cases h2
      clear hc
      go_enter Tryz.func59, Tryz.ntmps59
      go_wp2_with (fail)
      refine (HX.out _).mono ?_
      rintro e w1 ⟨rfl, rfl⟩
      go_wp2_with (fail)
      refine (HY.out _).mono ?_
      rintro e w1 ⟨rfl, rfl⟩
      go_wp2_with (fail)
      go_ret
      refine ⟨ret_i64 ?_, rfl⟩
      rw [HC.out, h1, h2]
      rfl
  · clear hc
    go_enter Tryz.func59, Tryz.ntmps59
    go_wp2_with (fail)
    refine (HX.out _).mono ?_
    rintro e w1 ⟨rfl, rfl⟩
    go_wp2_with (fail)
    refine (HY.out _).mono ?_
    rintro e w1 ⟨rfl, rfl⟩
    go_wp2_with (fail)
    go_ret
    refine ⟨ret_i64 ?_, rfl⟩
    rw [HC.out, h1]
    rfl
end Effect
end Go.Proofs.YtggabjmfdnfckaaGreatDoor
