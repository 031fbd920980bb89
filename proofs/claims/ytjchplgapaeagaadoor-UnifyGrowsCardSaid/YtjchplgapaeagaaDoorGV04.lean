/-The walk of the program's fits: may a node be, its kids left out? Types that lie one behind the other; what can be read in one world and in another; a row of types that grows. The program's way through all nodes of types, with what tells of one node and reads no state: May, Closed, Arrows. The walks of the program's May, Closed, Arrows and Size. -/
import Derived.Test.YtjchplgapaeagaaDoorGV00
import Derived.BigQuiet
import Derived.Lib.LaidTab
import Derived.OwnWalk
import Derived.Laws.AppendOwn
import Derived.Laws.AppendOwnNone
import Derived.Laws.OwnMore
namespace Go.Proofs.YtjchplgapaeagaaDoor
open Go.RowKit
set_option linter.unusedVariables false
namespace Types

/-- How many kids each kind has, as the program's table says. -/
def kidsTab : List Int := [0, 0, 2, 1, 2, 0]
def KidsLaid (w : World) : Prop := ∀ k, k < 6 → w.cell? ⟨0, k, none⟩ = some (.int .i64 (kidsTab.getD k 0))
theorem KidsLaid.below {w W : World} (h : KidsLaid w) (hb : Below w.heap.size w W) : KidsLaid W := fun k hk => by
  have hl : 0 < w.heap.size := World.block_lt_of_cell? w _ (h k hk)
  exact (hb.cell (p := ⟨0, k, none⟩) hl).trans (h k hk)
theorem gKids : Tryd.prog.globalNamed "enclave/types.kids" = some 0 := by kernel_rfl
theorem kidsLaid_of_tab {W : World} (h : Lib.TabIs Tryd.prog W "enclave/types.kids" .i64 kidsTab) : KidsLaid W := fun k hk => h.cell gKids k hk

theorem drewN_below {B : Nat} {a w : World} (h : Below B a w) (n : Nat) : Below B a (w.drewN n) := h.trans ⟨rfl, rfl, rfl, Nat.le_refl _, fun _ _ => rfl⟩

set_option maxRecDepth 100000 in
set_option maxHeartbeats 6400000 in
theorem fits_walk (h : Hd) (p : Option Addr) (l c : Nat) (w : World) (ho : HdOk h) (hl : l ≤ maxLen) (hk : KidsLaid w) :
    Calls Tryd.prog 68 #[.agg #[.int .u8 h.k, .int .i64 h.v, .slice p l c]] w fun e w' => e = .returned (.bool (nodeB h l)) ∧ Below w.heap.size w w' := by
  obtain ⟨k, v⟩ := h
  have ho1 := ho.k
  have ho2 := ho.v
  simp only at ho1 ho2
  unfold maxLen at hl
  have hbox : ∀ O : Obj, Below w.heap.size w (w.alloc O) := fun O => (Below.refl _ _).alloc (Nat.le_refl _) _
  have hkk := fun O : Obj => hk.below (hbox O)
  have HBOX := Lib.hid hbox
  clear hbox ho
  have hcase : k = 0 ∨ k = 1 ∨ k = 2 ∨ k = 3 ∨ k = 4 ∨ k = 5 ∨ 5 < k := by omega
  have hno : ∀ W : World, KidsLaid W → W.cell? ⟨0, 1, none⟩ = some (.int .i64 0) ∧ W.cell? ⟨0, 2, none⟩ = some (.int .i64 2) ∧ W.cell? ⟨0, 3, none⟩ = some (.int .i64 1) ∧ W.cell? ⟨0, 4, none⟩ = some (.int .i64 2) ∧ W.cell? ⟨0, 5, none⟩ = some (.int .i64 0) := fun W h =>
    ⟨h 1 (by omega), h 2 (by omega), h 3 (by omega), h 4 (by omega), h 5 (by omega)⟩
  obtain ⟨k1, k2, k3, k4, k5⟩ := hno _ (hkk (.cells #[.int .u8 k, .int .i64 v, .slice p l c] 25))
  clear hk hkk hno
  rcases hcase with rfl | rfl | rfl | rfl | rfl | rfl | h5
  · -- kind 0
    have hr : nodeB ⟨0, v⟩ l = false := by unfold nodeB kidsN; apply decide_eq_false; simp
    have HR := Lib.hid hr
    clear hr k1 k2 k3 k4 k5 ho1
    go_enter Tryd.func68, Tryd.ntmps68
    go_wp2_with (fail)
    go_quiet (fail)
    go_wp2_with (fail)
    go_ret
    exact ⟨ret_bool HR.out.symm, drewN_below (HBOX.out _) _⟩
  · -- kind 1
    by_cases hln : l = 0
    · subst hln
      have b0 : (((0 : Nat) : Int) != 0) = false := by decide
      have hcv : v = 0 ∨ 0 < v ∨ v < 0 := by omega
      rcases hcv with rfl | hv | hv
      · have hr : nodeB ⟨1, 0⟩ 0 = true := by unfold nodeB kidsN; decide
        have HR := Lib.hid hr
        clear hr
        go_enter Tryd.func68, Tryd.ntmps68
        go_wp2_with (fail)
        go_quiet (fail)
        go_wp2_with (fail)
        go_ret
        exact ⟨ret_bool HR.out.symm, drewN_below (HBOX.out _) _⟩
      · have hr : nodeB ⟨1, v⟩ 0 = false := by unfold nodeB kidsN; apply decide_eq_false; simp; omega
        have HR := Lib.hid hr
        clear hr
        have hv0 : (v == 0) = false := by rw [beq_eq_false_iff_ne]; omega
        have hv2 : decide (0 < v) = true := decide_eq_true hv
        go_enter Tryd.func68, Tryd.ntmps68
        go_wp2_with (fail)
        go_quiet (fail)
        go_wp2_with (fail)
        go_ret
        exact ⟨ret_bool HR.out.symm, drewN_below (HBOX.out _) _⟩
      · have hr : nodeB ⟨1, v⟩ 0 = false := by unfold nodeB kidsN; apply decide_eq_false; simp; omega
        have HR := Lib.hid hr
        clear hr
        have hv0 : (v == 0) = false := by rw [beq_eq_false_iff_ne]; omega
        have hv1 : ¬ 0 < v := by omega
        have hv2 : decide (0 < v) = false := decide_eq_false hv1
        go_enter Tryd.func68, Tryd.ntmps68
        go_wp2_with (fail)
        go_quiet (fail)
        go_wp2_with (fail)
        go_ret
        exact ⟨ret_bool HR.out.symm, drewN_below (HBOX.out _) _⟩
    · have hr : nodeB ⟨1, v⟩ l = false := by unfold nodeB kidsN; apply decide_eq_false; simp; omega
      have b0 : ((l : Int) != 0) = true := by rw [bne_iff_ne]; omega
      have HR := Lib.hid hr
      clear hr hln
      go_enter Tryd.func68, Tryd.ntmps68
      go_wp2_with (fail)
      go_quiet (fail)
      go_wp2_with (fail)
      go_ret
      exact ⟨ret_bool HR.out.symm, drewN_below (HBOX.out _) _⟩
  · -- kind 2
    by_cases hln : l = 2
    · subst hln
      have b0 : (((2 : Nat) : Int) != 2) = false := by decide
      have hcv : v = 0 ∨ 0 < v ∨ v < 0 := by omega
      rcases hcv with rfl | hv | hv
      · have hr : nodeB ⟨2, 0⟩ 2 = true := by unfold nodeB kidsN; decide
        have HR := Lib.hid hr
        clear hr
        go_enter Tryd.func68, Tryd.ntmps68
        go_wp2_with (fail)
        go_quiet (fail)
        go_wp2_with (fail)
        go_ret
        exact ⟨ret_bool HR.out.symm, drewN_below (HBOX.out _) _⟩
      · have hr : nodeB ⟨2, v⟩ 2 = false := by unfold nodeB kidsN; apply decide_eq_false; simp; omega
        have HR := Lib.hid hr
        clear hr
        have hv0 : (v == 0) = false := by rw [beq_eq_false_iff_ne]; omega
        have hv2 : decide (0 < v) = true := decide_eq_true hv
        go_enter Tryd.func68, Tryd.ntmps68
        go_wp2_with (fail)
        go_quiet (fail)
        go_wp2_with (fail)
        go_ret
        exact ⟨ret_bool HR.out.symm, drewN_below (HBOX.out _) _⟩
      · have hr : nodeB ⟨2, v⟩ 2 = false := by unfold nodeB kidsN; apply decide_eq_false; simp; omega
        have HR := Lib.hid hr
        clear hr
        have hv0 : (v == 0) = false := by rw [beq_eq_false_iff_ne]; omega
        have hv1 : ¬ 0 < v := by omega
        have hv2 : decide (0 < v) = false := decide_eq_false hv1
        go_enter Tryd.func68, Tryd.ntmps68
        go_wp2_with (fail)
        go_quiet (fail)
        go_wp2_with (fail)
        go_ret
        exact ⟨ret_bool HR.out.symm, drewN_below (HBOX.out _) _⟩
    · have hr : nodeB ⟨2, v⟩ l = false := by unfold nodeB kidsN; apply decide_eq_false; simp; omega
      have b0 : ((l : Int) != 2) = true := by rw [bne_iff_ne]; omega
      have HR := Lib.hid hr
      clear hr hln
      go_enter Tryd.func68, Tryd.ntmps68
      go_wp2_with (fail)
      go_quiet (fail)
      go_wp2_with (fail)
      go_ret
      exact ⟨ret_bool HR.out.symm, drewN_below (HBOX.out _) _⟩
  · -- kind 3
    by_cases hln : l = 1
    · subst hln
      have b0 : (((1 : Nat) : Int) != 1) = false := by decide
      have hcv : v = 0 ∨ 0 < v ∨ v < 0 := by omega
      rcases hcv with rfl | hv | hv
      · have hr : nodeB ⟨3, 0⟩ 1 = true := by unfold nodeB kidsN; decide
        have HR := Lib.hid hr
        clear hr
        go_enter Tryd.func68, Tryd.ntmps68
        go_wp2_with (fail)
        go_quiet (fail)
        go_wp2_with (fail)
        go_ret
        exact ⟨ret_bool HR.out.symm, drewN_below (HBOX.out _) _⟩
      · have hr : nodeB ⟨3, v⟩ 1 = false := by unfold nodeB kidsN; apply decide_eq_false; simp; omega
        have HR := Lib.hid hr
        clear hr
        have hv0 : (v == 0) = false := by rw [beq_eq_false_iff_ne]; omega
        have hv2 : decide (0 < v) = true := decide_eq_true hv
        go_enter Tryd.func68, Tryd.ntmps68
        go_wp2_with (fail)
        go_quiet (fail)
        go_wp2_with (fail)
        go_ret
        exact ⟨ret_bool HR.out.symm, drewN_below (HBOX.out _) _⟩
      · have hr : nodeB ⟨3, v⟩ 1 = false := by unfold nodeB kidsN; apply decide_eq_false; simp; omega
        have HR := Lib.hid hr
        clear hr
        have hv0 : (v == 0) = false := by rw [beq_eq_false_iff_ne]; omega
        have hv1 : ¬ 0 < v := by omega
        have hv2 : decide (0 < v) = false := decide_eq_false hv1
        go_enter Tryd.func68, Tryd.ntmps68
        go_wp2_with (fail)
        go_quiet (fail)
        go_wp2_with (fail)
        go_ret
        exact ⟨ret_bool HR.out.symm, drewN_below (HBOX.out _) _⟩
    · have hr : nodeB ⟨3, v⟩ l = false := by unfold nodeB kidsN; apply decide_eq_false; simp; omega
      have b0 : ((l : Int) != 1) = true := by rw [bne_iff_ne]; omega
      have HR := Lib.hid hr
      clear hr hln
      go_enter Tryd.func68, Tryd.ntmps68
      go_wp2_with (fail)
      go_quiet (fail)
      go_wp2_with (fail)
      go_ret
      exact ⟨ret_bool HR.out.symm, drewN_below (HBOX.out _) _⟩
  · -- kind 4
    by_cases hln : l = 2
    · subst hln
      have b0 : (((2 : Nat) : Int) != 2) = false := by decide
      have hcv : v = 0 ∨ 0 < v ∨ v < 0 := by omega
      rcases hcv with rfl | hv | hv
      · have hr : nodeB ⟨4, 0⟩ 2 = true := by unfold nodeB kidsN; decide
        have HR := Lib.hid hr
        clear hr
        go_enter Tryd.func68, Tryd.ntmps68
        go_wp2_with (fail)
        go_quiet (fail)
        go_wp2_with (fail)
        go_ret
        exact ⟨ret_bool HR.out.symm, drewN_below (HBOX.out _) _⟩
      · have hr : nodeB ⟨4, v⟩ 2 = false := by unfold nodeB kidsN; apply decide_eq_false; simp; omega
        have HR := Lib.hid hr
        clear hr
        have hv0 : (v == 0) = false := by rw [beq_eq_false_iff_ne]; omega
        have hv2 : decide (0 < v) = true := decide_eq_true hv
        go_enter Tryd.func68, Tryd.ntmps68
        go_wp2_with (fail)
        go_quiet (fail)
        go_wp2_with (fail)
        go_ret
        exact ⟨ret_bool HR.out.symm, drewN_below (HBOX.out _) _⟩
      · have hr : nodeB ⟨4, v⟩ 2 = false := by unfold nodeB kidsN; apply decide_eq_false; simp; omega
        have HR := Lib.hid hr
        clear hr
        have hv0 : (v == 0) = false := by rw [beq_eq_false_iff_ne]; omega
        have hv1 : ¬ 0 < v := by omega
        have hv2 : decide (0 < v) = false := decide_eq_false hv1
        go_enter Tryd.func68, Tryd.ntmps68
        go_wp2_with (fail)
        go_quiet (fail)
        go_wp2_with (fail)
        go_ret
        exact ⟨ret_bool HR.out.symm, drewN_below (HBOX.out _) _⟩
    · have hr : nodeB ⟨4, v⟩ l = false := by unfold nodeB kidsN; apply decide_eq_false; simp; omega
      have b0 : ((l : Int) != 2) = true := by rw [bne_iff_ne]; omega
      have HR := Lib.hid hr
      clear hr hln
      go_enter Tryd.func68, Tryd.ntmps68
      go_wp2_with (fail)
      go_quiet (fail)
      go_wp2_with (fail)
      go_ret
      exact ⟨ret_bool HR.out.symm, drewN_below (HBOX.out _) _⟩
  · -- kind 5
    by_cases hln : l = 0
    · subst hln
      have b0 : (((0 : Nat) : Int) != 0) = false := by decide
      have hcv : v = 0 ∨ 0 < v ∨ v < 0 := by omega
      rcases hcv with rfl | hv | hv
      · have hr : nodeB ⟨5, 0⟩ 0 = true := by unfold nodeB kidsN; decide
        have HR := Lib.hid hr
        clear hr
        go_enter Tryd.func68, Tryd.ntmps68
        go_wp2_with (fail)
        go_quiet (fail)
        go_wp2_with (fail)
        go_ret
        exact ⟨ret_bool HR.out.symm, drewN_below (HBOX.out _) _⟩
      · have hr : nodeB ⟨5, v⟩ 0 = true := by unfold nodeB kidsN; apply decide_eq_true; simp; omega
        have HR := Lib.hid hr
        clear hr
        have hv0 : (v == 0) = false := by rw [beq_eq_false_iff_ne]; omega
        have hv2 : decide (0 < v) = true := decide_eq_true hv
        go_enter Tryd.func68, Tryd.ntmps68
        go_wp2_with (fail)
        go_quiet (fail)
        go_wp2_with (fail)
        go_ret
        exact ⟨ret_bool HR.out.symm, drewN_below (HBOX.out _) _⟩
      · have hr : nodeB ⟨5, v⟩ 0 = false := by unfold nodeB kidsN; apply decide_eq_false; simp; omega
        have HR := Lib.hid hr
        clear hr
        have hv0 : (v == 0) = false := by rw [beq_eq_false_iff_ne]; omega
        have hv1 : ¬ 0 < v := by omega
        have hv2 : decide (0 < v) = false := decide_eq_false hv1
        go_enter Tryd.func68, Tryd.ntmps68
        go_wp2_with (fail)
        go_quiet (fail)
        go_wp2_with (fail)
        go_ret
        exact ⟨ret_bool HR.out.symm, drewN_below (HBOX.out _) _⟩
    · have hr : nodeB ⟨5, v⟩ l = false := by unfold nodeB kidsN; apply decide_eq_false; simp; omega
      have b0 : ((l : Int) != 0) = true := by rw [bne_iff_ne]; omega
      have HR := Lib.hid hr
      clear hr hln
      go_enter Tryd.func68, Tryd.ntmps68
      go_wp2_with (fail)
      go_quiet (fail)
      go_wp2_with (fail)
      go_ret
      exact ⟨ret_bool HR.out.symm, drewN_below (HBOX.out _) _⟩
  · -- kind 6
    have hr : nodeB ⟨k, v⟩ l = false := by unfold nodeB kidsN; apply decide_eq_false; simp; omega
    have HR := Lib.hid hr
    have e1 : decide (k < 1) = false := decide_eq_false (by omega)
    have e2 : decide (5 < k) = true := decide_eq_true h5
    clear hr k1 k2 k3 k4 k5 ho1
    go_enter Tryd.func68, Tryd.ntmps68
    go_wp2_with (fail)
    go_quiet (fail)
    go_wp2_with (fail)
    go_ret
    exact ⟨ret_bool HR.out.symm, drewN_below (HBOX.out _) _⟩
end Types
end Go.Proofs.YtjchplgapaeagaaDoor
namespace Go.Proofs.YtjchplgapaeagaaDoor
open Go.RowKit
set_option linter.unusedVariables false
namespace Types

/-- Types by value, one behind the other, their kids in the memory w. -/
def Flat (w : World) : List Value → List Ty → Prop
  | xs, [] => xs = []
  | xs, t :: ts => ∃ q c ys, xs = tcells t.h q t.ks.length c ++ ys ∧ TyIs w t.h q t.ks.length c t ∧ Flat w ys ts
theorem Flat.append {w : World} : ∀ {ts us : List Ty} {xs ys : List Value}, Flat w xs ts → Flat w ys us → Flat w (xs ++ ys) (ts ++ us)
  | [], us, xs, ys, h, k => by
    have : xs = [] := h
    subst this
    exact k
  | t :: ts, us, xs, ys, ⟨q, c, zs, he, hT, h⟩, k => ⟨q, c, zs ++ ys, by rw [he, List.append_assoc], hT, h.append k⟩
theorem Flat.len {w : World} : ∀ {ts : List Ty} {xs : List Value}, Flat w xs ts → xs.length = ts.length * 3
  | [], xs, h => by
    have : xs = [] := h
    subst this
    rfl
  | t :: ts, xs, ⟨q, c, zs, he, _, h⟩ => by
    rw [he, List.length_append, h.len, List.length_cons]
    simp [tcells]
    omega
theorem Flat.one {w : World} {t : Ty} {h : Hd} {q : Option Addr} {l c : Nat} (hT : TyIs w h q l c t) : Flat w (tcells h q l c) [t] := by
  obtain ⟨h1, h2, h3, h4, h5⟩ := hT
  subst h1 h2
  exact ⟨q, c, [], by simp, ⟨rfl, rfl, h3, h4, h5⟩, rfl⟩
theorem Flat.cells1 {w : World} : ∀ {ts : List Ty} {xs : List Value}, Flat w xs ts → ∀ u ∈ xs, u.oneCell' = true
  | [], xs, h, u, hu => by
    have : xs = [] := h
    subst this
    cases hu
  | t :: ts, xs, ⟨q, c, zs, he, _, h⟩, u, hu => by
    rw [he] at hu
    rcases List.mem_append.1 hu with hu | hu
    · simp [tcells] at hu
      rcases hu with rfl | rfl | rfl <;> rfl
    · exact h.cells1 u hu
theorem Flat.get {w : World} : ∀ {ts : List Ty} {xs : List Value}, Flat w xs ts → ∀ i, i < ts.length → ∃ q c, TyIs w (tget ts i).h q (tget ts i).ks.length c (tget ts i) ∧ ∀ j v, (tcells (tget ts i).h q (tget ts i).ks.length c)[j]? = some v → xs[i * 3 + j]? = some v
  | [], xs, _, i, hi => by simp at hi
  | t :: ts, xs, ⟨q, c, zs, he, hT, h⟩, 0, _ => by
    refine ⟨q, c, hT, fun j v hv => ?_⟩
    rw [he, Nat.zero_mul, Nat.zero_add, List.getElem?_append_left ?_]
    · exact hv
    · rcases Nat.lt_or_ge j (tcells t.h q t.ks.length c).length with h | h
      · exact h
      · rw [List.getElem?_eq_none (by exact h)] at hv; cases hv
  | t :: ts, xs, ⟨q, c, zs, he, hT, h⟩, i + 1, hi => by
    obtain ⟨q', c', h1, h2⟩ := h.get i (by simpa using hi)
    refine ⟨q', c', h1, fun j v hv => ?_⟩
    rw [he, List.getElem?_append_right (by simp [tcells]; omega)]
    have e : (i + 1) * 3 + j - (tcells t.h q t.ks.length c).length = i * 3 + j := by simp [tcells]; omega
    rw [e]
    exact h2 j v hv
theorem Flat.stay {w W : World} (hb : Below w.heap.size w W) : ∀ {ts : List Ty} {xs : List Value}, Flat w xs ts → Flat W xs ts
  | [], xs, h => h
  | t :: ts, xs, ⟨q, c, zs, he, hT, h⟩ => ⟨q, c, zs, he, hT.below hb, h.stay hb⟩
/-- A row that the call owns, of types whose kids are there, is types in memory. -/
theorem kids_of_own {w W : World} {B e g n c : Nat} {xs : List Value} {ts : List Ty} (h : W.ownsRow B e 3 (.slice (some ⟨g, 0, none⟩) n c) n xs) (hf : Flat w xs ts) (hb : Below w.heap.size w W) (hn : ts.length = n) : Kids W (some ⟨g, 0, none⟩) ts := by
  have hf' := hf.stay hb
  have each : ∀ i, ∃ r : Option Addr × Nat, i < ts.length → TyIs W (tget ts i).h r.1 (tget ts i).ks.length r.2 (tget ts i) ∧ ∀ j v, (tcells (tget ts i).h r.1 (tget ts i).ks.length r.2)[j]? = some v → xs[i * 3 + j]? = some v := by
    intro i
    by_cases hi : i < ts.length
    · obtain ⟨q, c, h1, h2⟩ := hf'.get i hi
      exact ⟨(q, c), fun _ => ⟨h1, h2⟩⟩
    · exact ⟨(none, 0), fun h => absurd h hi⟩
  obtain ⟨R, hR⟩ := Classical.axiomOfChoice each
  refine .atkids g 0 ts (fun i => (R i).1) (fun i => (R i).2) (fun i hi => (hR i hi).1.ok) (fun i hi j v hv => ?_) (fun i hi => (hR i hi).1.cap) (fun i hi => (hR i hi).1.kids)
  have hx := (hR i hi).2 j v hv
  have hj : j < 3 := by
    rcases Nat.lt_or_ge j 3 with h | h
    · exact h
    · rw [List.getElem?_eq_none (by simpa [tcells] using h)] at hv; cases hv
  rw [Nat.zero_add, h.cellAt (i * 3 + j) (by omega), hx]

theorem infoType : (Tryd.prog.info? 25).map (fun i => (i.zero, i.size, i.bytes)) = some (some (.agg #[.int .u8 0, .int .i64 0, .slice none 0 0]), 3, 40) := by kernel_rfl
/-- What can be read in the one world reads so in the other. -/
def Reads (w0 W : World) : Prop := ∀ a v, w0.cell? a = some v → W.cell? a = some v
theorem Reads.of_below {w0 W : World} (h : Below w0.heap.size w0 W) : Reads w0 W := fun a v hv => (h.cell (World.block_lt_of_cell? w0 _ hv)).trans hv
theorem Reads.trans {a b c : World} (h : Reads a b) (k : Reads b c) : Reads a c := fun x v hv => k x v (h x v hv)
/-- The world, but for the blocks that aren't looked at. -/
def veil (P : Nat → Bool) (W : World) : World := { W with heap := W.heap.mapIdx fun i o => if P i = true then o else .cells #[] 0 }
theorem veil_size (P : Nat → Bool) (W : World) : (veil P W).heap.size = W.heap.size := by simp [veil]
theorem veil_at {P : Nat → Bool} {W : World} {b : Nat} (h : P b = true) : (veil P W).heap[b]? = W.heap[b]? := by
  unfold veil
  simp only [Array.getElem?_mapIdx]
  cases W.heap[b]? with
  | none => rfl
  | some o => simp [h]
theorem veil_seen {P : Nat → Bool} {W : World} {a : Addr} {v : Value} (h : (veil P W).cell? a = some v) : P a.block = true ∧ W.cell? a = some v := by
  cases hp : P a.block
  · unfold World.cell? veil at h
    simp only [Array.getElem?_mapIdx] at h
    cases ho : W.heap[a.block]? with
    | none => rw [ho] at h; simp at h
    | some o => rw [ho] at h; simp [hp] at h
  · exact ⟨rfl, by rw [← World.cell?_of_block (veil_at hp)]; exact h⟩
theorem veil_reads (P : Nat → Bool) (W : World) : Reads (veil P W) W := fun a v h => (veil_seen h).2
/-- From one to the other: what is seen of the one stands in the other, and is seen there. -/
theorem veil_to {P P' : Nat → Bool} {W W' : World} (h : ∀ b, b < W.heap.size → P b = true → P' b = true ∧ W'.heap[b]? = W.heap[b]?) : Reads (veil P W) (veil P' W') := fun a v hv => by
  obtain ⟨hp, hw⟩ := veil_seen hv
  obtain ⟨h1, h2⟩ := h a.block (World.block_lt_of_cell? W _ hw) hp
  rw [World.cell?_of_block (veil_at h1), World.cell?_of_block h2]
  exact hw
theorem Kids.reads' {w W : World} {p : Option Addr} {ts : List Ty} (h : Kids w p ts) (hb : Reads w W) : Kids W p ts := by
  induction h with
  | nokids p => exact .nokids p
  | atkids b o ts q c hh hc hl hk ih => exact .atkids b o ts q c hh (fun i hi j v hv => hb _ _ (hc i hi j v hv)) hl (fun i hi => ih i hi)
theorem TyIs.reads' {w W : World} {h : Hd} {p : Option Addr} {l c : Nat} {t : Ty} (k : TyIs w h p l c t) (hb : Reads w W) : TyIs W h p l c t := ⟨k.head, k.len, k.ok, k.cap, k.kids.reads' hb⟩
theorem Flat.reads {w W : World} (hb : Reads w W) : ∀ {ts : List Ty} {xs : List Value}, Flat w xs ts → Flat W xs ts
  | [], xs, h => h
  | t :: ts, xs, ⟨q, c, zs, he, hT, h⟩ => ⟨q, c, zs, he, hT.reads' hb, h.reads hb⟩
theorem veil_own {P : Nat → Bool} {W : World} {B e size n : Nat} {v : Value} {xs : List Value} (h : W.ownsRow B e size v n xs) (hp : ∀ k, v.ownBlock = some k → P k = true) : (veil P W).ownsRow B e size v n xs := by
  refine ⟨h.1, h.2.imp id ?_⟩
  rintro ⟨g, cap, cur, rfl, hg, hh, r⟩
  exact ⟨g, cap, cur, rfl, hg, by rw [veil_at (hp g rfl)]; exact hh, r⟩
/-- What is seen of a world through a veil, of an elder one whose blocks are all seen. -/
theorem veil_from {P : Nat → Bool} {w V : World} (h : ∀ b, b < w.heap.size → P b = true ∧ V.heap[b]? = w.heap[b]?) : Reads w (veil P V) := fun a v hv => by
  obtain ⟨h1, h2⟩ := h a.block (World.block_lt_of_cell? w _ hv)
  rw [World.cell?_of_block (veil_at h1), World.cell?_of_block h2]
  exact hv
/-- A row of types whose kids are there. -/
theorem kids_of_flat {W : World} {b : Nat} {xs : List Value} {ts : List Ty} (hc : ∀ j u, xs[j]? = some u → W.cell? ⟨b, j, none⟩ = some u) (hf : Flat W xs ts) : Kids W (some ⟨b, 0, none⟩) ts := by
  have each : ∀ i, ∃ r : Option Addr × Nat, i < ts.length → TyIs W (tget ts i).h r.1 (tget ts i).ks.length r.2 (tget ts i) ∧ ∀ j v, (tcells (tget ts i).h r.1 (tget ts i).ks.length r.2)[j]? = some v → xs[i * 3 + j]? = some v := by
    intro i
    by_cases hi : i < ts.length
    · obtain ⟨q, c, h1, h2⟩ := hf.get i hi
      exact ⟨(q, c), fun _ => ⟨h1, h2⟩⟩
    · exact ⟨(none, 0), fun h => absurd h hi⟩
  obtain ⟨R, hR⟩ := Classical.axiomOfChoice each
  refine .atkids b 0 ts (fun i => (R i).1) (fun i => (R i).2) (fun i hi => (hR i hi).1.ok) (fun i hi j v hv => ?_) (fun i hi => (hR i hi).1.cap) (fun i hi => (hR i hi).1.kids)
  rw [Nat.zero_add]
  exact hc _ _ ((hR i hi).2 j v hv)
end Types
end Go.Proofs.YtjchplgapaeagaaDoor
namespace Go.Proofs.YtjchplgapaeagaaDoor
open Go.RowKit
set_option linter.unusedVariables false
namespace Types

/-- What is asked of the one that is handed each node. -/
def Tells (f : Nat) (B : Hd → Nat → Bool) : Prop := ∀ (h : Hd) (p : Option Addr) (l c : Nat) (w : World), HdOk h → l ≤ maxLen → KidsLaid w →
  Calls Tryd.prog f #[.agg #[.int .u8 h.k, .int .i64 h.v, .slice p l c]] w fun e w' => e = .returned (.bool (B h l)) ∧ Below w.heap.size w w'
theorem box_at {w W : World} {cs : Array Value} {ty : TypeId} (hb : Below (w.alloc (.cells cs ty)).heap.size (w.alloc (.cells cs ty)) W) (j : Nat) {v : Value} (hv : cs[j]? = some v) : W.cell? ⟨w.heap.size, j, none⟩ = some v := by
  have hlt : w.heap.size < (w.alloc (.cells cs ty)).heap.size := by simp
  rw [hb.cell (p := ⟨w.heap.size, j, none⟩) hlt, World.cell?_alloc_mark, hv]
theorem box_new {w : World} (O : Obj) : Below w.heap.size w (w.alloc O) := (Below.refl _ _).alloc (Nat.le_refl _) O
theorem below_then {B : Nat} {a w1 w2 : World} (h : Below B a w1) (hb : Below w1.heap.size w1 w2) (hB : B ≤ w1.heap.size) : Below B a w2 := h.trans (hb.mono hB)

set_option maxRecDepth 10000 in
set_option maxHeartbeats 6400000 in
theorem allFits_walk (B : Hd → Nat → Bool) (hC : Tells 68 B) :
    ∀ (m : Nat) (ts : List Ty) (p : Option Addr) (l d : Nat) (w : World), wts ts ≤ m → ts.length = l → l ≤ maxLen → Kids w p ts → KidsLaid w →
    Calls Tryd.prog 67 #[.func (.func 68) #[] #[], .slice p l d] w fun e w' => e = .returned (.bool (allK B ts)) ∧ Below w.heap.size w w' := by
  have GC := Lib.hid hC
  clear hC
  intro m
  induction m using Nat.strongRecOn with
  | _ m ih =>
    intro ts p l d w hm hl hlm hk hi
    unfold maxLen at hlm
    have HM := Lib.hid hm; have HL := Lib.hid hl; have HK := Lib.hid hk; have HI := Lib.hid hi; have IH := Lib.hid ih
    clear hm hl hk hi ih
    go_enter Tryd.func67, Tryd.ntmps67
    go_wp2_with (fail)
    go_loopw [6, 9] (fun _ i wr => ∃ j : Nat, j ≤ l ∧ i = .int .i64 j ∧ Hid (allK B ts = allK B (ts.drop j)) ∧ Hid (Below w.heap.size w wr)) (fun _ i _ => l - (intOf i).toNat)
    case atStart => exact ⟨0, Nat.zero_le _, rfl, Lib.hid (by rw [List.drop_zero]), Lib.hid (Below.refl _ _)⟩
    case round =>
      obtain ⟨j, hj, rfl, HF, HS⟩ := hrel
      by_cases hlt : j < l
      · have hjk : j < ts.length := by rw [HL.out]; exact hlt
        obtain ⟨b, o, q, c', rfl, hkid, c0, c1, c2⟩ := (HK.out.stay HS.out).get j hjk
        have hwm : wts (tget ts j).ks < wts ts := by have h1 := wts_get hjk; have h2 := wt_ks (tget ts j); omega
        have hla := HI.out.below HS.out
        have HJK := Lib.hid hjk; have HKID := Lib.hid hkid; have HWM := Lib.hid hwm; have HLA := Lib.hid hla
        clear hjk hkid hwm hla
        go_wp2_with (fail)
        refine (GC.out _ _ _ _ _ HKID.out.ok (Nat.le_trans HKID.out.cap.1 HKID.out.cap.2) (HLA.out.below (box_new _))).mono ?_
        rintro e w1 ⟨rfl, hb1⟩
        have b2 := box_at hb1 2 rfl
        have hb1' := (box_new (w := wr) (.cells #[.int .u8 (tget ts j).h.k, .int .i64 (tget ts j).h.v, .slice q (tget ts j).ks.length c'] 25)).trans (hb1.mono (by simp))
        have HB1 := Lib.hid (below_then HS.out hb1' HS.out.size)
        have HW1 := Lib.hid hb1'
        clear hb1 hb1' c0 c1 c2
        cases hb : B (tget ts j).h (tget ts j).ks.length
        · have hno := allK_no B HJK.out hb
          have HNO := Lib.hid hno
          clear hno hb
          go_wp2
          go_ret
          exact ⟨ret_bool (by rw [HF.out, HNO.out]), HB1.out⟩
        · have HB := Lib.hid hb
          clear hb
          go_wp2_with (fail)
          refine (IH.out (wts (tget ts j).ks) (by have := HWM.out; have := HM.out; omega) (tget ts j).ks q _ c' _ (Nat.le_refl _) rfl (Nat.le_trans HKID.out.cap.1 HKID.out.cap.2) (HKID.out.below HW1.out).kids (HLA.out.below HW1.out)).mono ?_
          rintro e w2 ⟨rfl, hb2⟩
          have HB2 := Lib.hid (below_then HB1.out hb2 HB1.out.size)
          clear hb2 b2
          cases hk : allK B (tget ts j).ks
          · have hno := allK_kno B HJK.out hk
            have HNO := Lib.hid hno
            clear hno hk
            go_wp2
            go_ret
            exact ⟨ret_bool (by rw [HF.out, HNO.out]), HB2.out⟩
          · have hyes := allK_yes B HJK.out HB.out hk
            have HYES := Lib.hid hyes
            clear hyes hk
            go_wp2
            go_roundw
            case rel => exact ⟨j + 1, by omega, by go_num, Lib.hid (HF.out.trans HYES.out), HB2⟩
            case measure => simp [intOf]; omega
      · obtain rfl : j = l := by omega
        have hr := HF.out
        rw [List.drop_eq_nil_of_le (by rw [HL.out]; exact Nat.le_refl _), allK_nil] at hr
        have HR := Lib.hid hr
        clear hr
        go_wp2
        go_ret
        exact ⟨ret_bool (by rw [HR.out]), HS.out⟩

end Types
end Go.Proofs.YtjchplgapaeagaaDoor
namespace Go.Proofs.YtjchplgapaeagaaDoor
open Go.RowKit
set_option linter.unusedVariables false
namespace Types

/-- A slice of one type, just laid. -/
theorem kids_one {w : World} {h : Hd} {p : Option Addr} {l c : Nat} {t : Ty} (hT : TyIs w h p l c t) (ty : TypeId) (N : Nat) (hN : N = w.heap.size) :
    Kids (w.alloc (.cells #[.int .u8 h.k, .int .i64 h.v, .slice p l c] ty)) (some ⟨N, 0, none⟩) [t] := by
  subst hN
  have hb : Below w.heap.size w (w.alloc (.cells #[.int .u8 h.k, .int .i64 h.v, .slice p l c] ty)) := (Below.refl _ _).alloc (Nat.le_refl _) _
  have hg : tget [t] 0 = t := rfl
  refine .atkids _ 0 [t] (fun _ => p) (fun _ => c) (fun i hi => ?_) (fun i hi j v hv => ?_) (fun i hi => ?_) (fun i hi => ?_)
  all_goals
    have hi0 : i = 0 := by simp at hi; omega
    subst hi0
  · rw [hg, hT.head]; exact hT.ok
  · rw [hg, hT.head, hT.len] at hv
    rw [show (0 + 0 * 3 + j) = j from by omega, World.cell?_alloc_mark]
    simpa [tcells] using hv
  · rw [hg, hT.len]; exact hT.cap
  · rw [hg]; exact hT.kids.stay hb
/-- A slice of two types, just laid. -/
theorem kids_two {w : World} {h h' : Hd} {p p' : Option Addr} {l c l' c' : Nat} {t u : Ty} (hT : TyIs w h p l c t) (hU : TyIs w h' p' l' c' u) (ty : TypeId) (N : Nat) (hN : N = w.heap.size) :
    Kids (w.alloc (.cells #[.int .u8 h.k, .int .i64 h.v, .slice p l c, .int .u8 h'.k, .int .i64 h'.v, .slice p' l' c'] ty)) (some ⟨N, 0, none⟩) [t, u] := by
  subst hN
  have hb : Below w.heap.size w (w.alloc (.cells #[.int .u8 h.k, .int .i64 h.v, .slice p l c, .int .u8 h'.k, .int .i64 h'.v, .slice p' l' c'] ty)) := (Below.refl _ _).alloc (Nat.le_refl _) _
  have hg0 : tget [t, u] 0 = t := rfl
  have hg1 : tget [t, u] 1 = u := rfl
  refine .atkids _ 0 [t, u] (fun i => if i = 0 then p else p') (fun i => if i = 0 then c else c') (fun i hi => ?_) (fun i hi j v hv => ?_) (fun i hi => ?_) (fun i hi => ?_)
  all_goals
    have hi0 : i = 0 ∨ i = 1 := by simp at hi; omega
    rcases hi0 with rfl | rfl
  · rw [hg0, hT.head]; exact hT.ok
  · rw [hg1, hU.head]; exact hU.ok
  · rw [hg0, hT.head, hT.len] at hv
    rw [show (0 + 0 * 3 + j) = j from by omega, World.cell?_alloc_mark]
    simp only [if_pos] at hv
    have hj : j < 3 := by
      rcases Nat.lt_or_ge j 3 with h | h
      · exact h
      · rw [List.getElem?_eq_none (by simpa [tcells] using h)] at hv; cases hv
    have hjj : j = 0 ∨ j = 1 ∨ j = 2 := by omega
    rcases hjj with rfl | rfl | rfl <;> simpa [tcells] using hv
  · rw [hg1, hU.head, hU.len] at hv
    rw [show (0 + 1 * 3 + j) = 3 + j from by omega, World.cell?_alloc_mark]
    simp only [show ¬ (1 : Nat) = 0 from by decide, if_false] at hv
    have hj : j < 3 := by
      rcases Nat.lt_or_ge j 3 with h | h
      · exact h
      · rw [List.getElem?_eq_none (by simpa [tcells] using h)] at hv; cases hv
    have hjj : j = 0 ∨ j = 1 ∨ j = 2 := by omega
    rcases hjj with rfl | rfl | rfl <;> simpa [tcells] using hv
  · rw [hg0, hT.len]; exact hT.cap
  · rw [hg1, hU.len]; exact hU.cap
  · rw [hg0]; exact hT.kids.stay hb
  · rw [hg1]; exact hU.kids.stay hb
/-- A box of a type, read later. -/
theorem box3 {V W : World} {N : Nat} (hN : N = V.heap.size) {a0 a1 a2 : Value} {ty : TypeId} (hb : Below (V.alloc (.cells #[a0, a1, a2] ty)).heap.size (V.alloc (.cells #[a0, a1, a2] ty)) W) :
    W.cell? ⟨N, 0, none⟩ = some a0 ∧ W.cell? ⟨N, 1, none⟩ = some a1 ∧ W.cell? ⟨N, 2, none⟩ = some a2 := by
  subst hN
  exact ⟨box_at hb 0 rfl, box_at hb 1 rfl, box_at hb 2 rfl⟩
theorem below_row {B : Nat} {a w1 w2 : World} {O : Obj} (h : Below B a w1) (hb : Below (w1.alloc O).heap.size (w1.alloc O) w2) (hB : B ≤ w1.heap.size) : Below B a w2 :=
  h.trans (((box_new O).trans (hb.mono (by simp))).mono hB)

theorem one_le : 1 ≤ maxLen := by unfold maxLen; omega
theorem fits_tells : Tells 68 nodeB := fun h p l c w ho hl hk => fits_walk h p l c w ho hl hk
set_option maxHeartbeats 1600000 in
theorem may_walk (t : Ty) (h : Hd) (p : Option Addr) (l c : Nat) (w : World) (hT : TyIs w h p l c t) (hk : KidsLaid w) :
    Calls Tryd.prog 46 #[.agg #[.int .u8 h.k, .int .i64 h.v, .slice p l c]] w fun e w' => e = .returned (.bool (mayT t)) ∧ Below w.heap.size w w' := by
  have hK := fun O : Obj => kids_one (hT.below (box_new O)) 25 (w.heap.size + 1) (by simp)
  have hD : ∀ O O' : Obj, KidsLaid ((w.alloc O).alloc O') := fun O O' => (hk.below (box_new O)).below (box_new O')
  have ha := fun O : Obj => allFits_walk nodeB fits_tells (wts [t]) [t] _ 1 1 _ (Nat.le_refl _) (List.length_singleton) one_le (hK O) (hD O _)
  rw [allK_one] at ha
  have hm : mayT t = allT nodeB t := rfl
  obtain ⟨k, v⟩ := h
  have HA := Lib.hid ha; have HM := Lib.hid hm
  clear ha hm hT hk hK hD
  generalize allT nodeB t = X at *
  go_enter Tryd.func46, Tryd.ntmps46
  go_wp2_with (fail)
  refine (HA.out _).mono ?_
  rintro e w1 ⟨rfl, hb1⟩
  have HB1 := Lib.hid (below_row (box_new (w := w) (.cells #[.int .u8 k, .int .i64 v, .slice p l c] 25)) hb1 (by simp))
  clear hb1
  go_wp2_with (fail)
  go_ret
  exact ⟨ret_bool HM.out.symm, HB1.out⟩
end Types
end Go.Proofs.YtjchplgapaeagaaDoor
