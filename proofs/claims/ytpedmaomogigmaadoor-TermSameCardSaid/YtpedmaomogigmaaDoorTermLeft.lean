/- The walk of the document's bound on what is gone through. -/
import Derived.Test.YtpedmaomogigmaaDoorTermData
import Derived.LoopTactic
import Derived.Outline
import Derived.Lib.Hide
import Derived.IntWalk
namespace Go.Proofs.YtpedmaomogigmaaDoor
open Go.RowKit
set_option linter.unusedVariables false
namespace Term

theorem ret_i64 {a b : Int} (h : a = b) : Ending.returned (.int .i64 a) = .returned (.int .i64 b) := by rw [h]
theorem ret_bool {a b : Bool} (h : a = b) : Ending.returned (.bool a) = .returned (.bool b) := by rw [h]
/-- Is a text too long to be gone through? -/
def longB (h : Hd) : Bool := decide (100 < h.name.size ∨ 100 < h.arg.size ∨ 100 < h.exn.size)
mutual
def leftT : Tm → Int → Int
  | .node h l, n => if longB h = true then -1 else leftK l (n - 1)
def leftK : List Tm → Int → Int
  | [], n => n
  | t :: ts, n => if n < 0 then n else leftK ts (leftT t n)
end
theorem leftT_eq (t : Tm) (n : Int) : leftT t n = if longB t.h = true then -1 else leftK t.ks (n - 1) := by cases t; unfold leftT; rfl
theorem leftK_nil (n : Int) : leftK [] n = n := by unfold leftK; rfl
theorem leftK_cons (t : Tm) (ts : List Tm) (n : Int) : leftK (t :: ts) n = if n < 0 then n else leftK ts (leftT t n) := by conv => lhs; unfold leftK
theorem leftK_neg (ts : List Tm) (n : Int) (h : n < 0) : leftK ts n = n := by
  cases ts with
  | nil => exact leftK_nil n
  | cons t ts => rw [leftK_cons, if_pos h]
theorem drop_tget (ts : List Tm) (k : Nat) (h : k < ts.length) : ts.drop k = tget ts k :: ts.drop (k + 1) := by
  rw [List.drop_eq_getElem_cons h]
  have := tget_at h
  rw [List.getElem?_eq_getElem h] at this
  rw [Option.some.inj this]
theorem leftK_step (ts : List Tm) (k : Nat) (n : Int) (h : k < ts.length) (hn : ¬ n < 0) : leftK (ts.drop k) n = leftK (ts.drop (k + 1)) (leftT (tget ts k) n) := by
  rw [drop_tget ts k h, leftK_cons, if_neg hn]
/-- It never rises, and is -1 at least. -/
theorem left_range : ∀ m : Nat, (∀ (t : Tm) (n : Int), wt t ≤ m → -1 ≤ n → -2 ≤ leftT t n ∧ (0 ≤ n → -1 ≤ leftT t n) ∧ leftT t n ≤ max n (-1)) ∧ (∀ (ts : List Tm) (n : Int), wts ts ≤ m → -1 ≤ n → -1 ≤ leftK ts n ∧ leftK ts n ≤ n) := by
  intro m
  induction m with
  | zero =>
    refine ⟨fun t n h => by have := wt_pos t; omega, fun ts n h hn => ?_⟩
    cases ts with
    | nil => rw [leftK_nil]; omega
    | cons t ts => rw [wts_cons] at h; have := wt_pos t; omega
  | succ m ih =>
    have hT : ∀ (t : Tm) (n : Int), wt t ≤ m + 1 → -1 ≤ n → -2 ≤ leftT t n ∧ (0 ≤ n → -1 ≤ leftT t n) ∧ leftT t n ≤ max n (-1) := by
      intro t n h hn
      rw [wt_ks] at h
      rw [leftT_eq]
      split
      · omega
      · by_cases h0 : 0 ≤ n
        · have := ih.2 t.ks (n - 1) (by omega) (by omega)
          omega
        · rw [leftK_neg _ _ (by omega)]
          omega
    refine ⟨hT, ?_⟩
    intro ts
    induction ts with
    | nil => intro n _ hn; rw [leftK_nil]; omega
    | cons t ts ihs =>
      intro n h hn
      rw [wts_cons] at h
      rw [leftK_cons]
      split
      · omega
      · rename_i h0
        have h1 := hT t n (by omega) hn
        have h2 := ihs (leftT t n) (by omega) (by omega)
        omega

/-- A block just laid reads as it was laid, whatever came behind it. -/
theorem boxAt {w W : World} {cs : Array Value} {t : TypeId} (hb : Below (w.alloc (.cells cs t)).heap.size (w.alloc (.cells cs t)) W) (j : Nat) {v : Value} (hv : cs[j]? = some v) : W.cell? ⟨w.heap.size, j, none⟩ = some v := by
  have hlt : w.heap.size < (w.alloc (.cells cs t)).heap.size := by simp
  rw [hb.cell (p := ⟨w.heap.size, j, none⟩) hlt, World.cell?_alloc_mark, hv]

set_option maxRecDepth 10000 in
set_option maxHeartbeats 3200000 in
theorem left_walk : ∀ (m : Nat) (t : Tm) (h : Hd) (p : Option Addr) (l c : Nat) (n : Int) (w : World), wt t ≤ m → TmIs w h p l c t → 0 ≤ n → n ≤ 400 →
    Calls Tryd.prog 22 #[.agg #[.int .u8 h.k, .int .u8 h.op, .int .i64 h.pl, .int .i64 h.n, .string h.name, .string h.arg, .string h.exn, .slice p l c], .int .i64 n] w fun e w' => e = .returned (.int .i64 (leftT t n)) ∧ Below w.heap.size w w' := by
  intro m
  induction m with
  | zero => intro t h p l c n w hm; have := wt_pos t; omega
  | succ m ih =>
    intro t h p l c n w hm hT hn0 hn1
    have hle := leftT_eq t n
    have hlr := fun N hN => (left_range (wts t.ks)).2 t.ks N (Nat.le_refl _) hN
    rw [hT.head] at hle
    obtain ⟨k, op, pl, nn, nm, ar, ex⟩ := h
    have s4 := hT.ok.name; have s5 := hT.ok.arg; have s6 := hT.ok.exn
    simp only at s4 s5 s6
    unfold maxLen at s4 s5 s6
    have hlc : l ≤ 9223372036854775807 := by have := hT.cap; unfold maxLen at this; omega
    have hbox : ∀ O : Obj, Below w.heap.size w (w.alloc O) := fun O => (Below.refl _ _).alloc (Nat.le_refl _) _
    have HBOX := Lib.hid hbox; have IH := Lib.hid ih; have HT := Lib.hid hT; have HM := Lib.hid hm
    clear ih hT hm hbox
    by_cases hlong : longB ⟨k, op, pl, nn, nm, ar, ex⟩ = true
    · rw [if_pos hlong] at hle
      have HLE := Lib.hid hle
      unfold longB at hlong
      have hl := of_decide_eq_true hlong
      simp only at hl
      clear hle hlong
      by_cases h4 : 100 < nm.size
      · clear hl
        go_enter Tryd.func22, Tryd.ntmps22
        go_wp2_with (fail)
        go_ret
        exact ⟨ret_i64 HLE.out.symm, HBOX.out _⟩
      by_cases h5 : 100 < ar.size
      · clear hl
        go_enter Tryd.func22, Tryd.ntmps22
        go_wp2_with (fail)
        go_ret
        exact ⟨ret_i64 HLE.out.symm, HBOX.out _⟩
      have h6 : 100 < ex.size := by omega
      clear hl
      go_enter Tryd.func22, Tryd.ntmps22
      go_wp2_with (fail)
      go_ret
      exact ⟨ret_i64 HLE.out.symm, HBOX.out _⟩
    · rw [if_neg hlong] at hle
      have HLE := Lib.hid hle
      unfold longB at hlong
      have hl : ¬ (100 < nm.size ∨ 100 < ar.size ∨ 100 < ex.size) := fun h => hlong (decide_eq_true h)
      have h4 : ¬ 100 < nm.size := by omega
      have h5 : ¬ 100 < ar.size := by omega
      have h6 : ¬ 100 < ex.size := by omega
      clear hle hlong hl
      go_enter Tryd.func22, Tryd.ntmps22
      go_wp2_with (fail)
      go_loopw [1, 5] (fun N i wr => ∃ (j : Nat) (M : Int), j ≤ l ∧ i = .int .i64 j ∧ N = .int .i64 M ∧ -1 ≤ M ∧ M ≤ 400 ∧ leftK t.ks (n - 1) = leftK (t.ks.drop j) M ∧
        Below (w.alloc (.cells #[.int .u8 k, .int .u8 op, .int .i64 pl, .int .i64 nn, .string nm, .string ar, .string ex, .slice p l c] 26)).heap.size (w.alloc (.cells #[.int .u8 k, .int .u8 op, .int .i64 pl, .int .i64 nn, .string nm, .string ar, .string ex, .slice p l c] 26)) wr) (fun _ i _ => l - (intOf i).toNat)
      case atStart => exact ⟨0, n - 1, Nat.zero_le _, rfl, rfl, by omega, by omega, by rw [List.drop_zero], Below.refl _ _⟩
      case round =>
        obtain ⟨j, M, hj, rfl, rfl, hM0, hM1, hLK, hw⟩ := hrel
        have HLK := Lib.hid hLK; have HW := Lib.hid hw
        have b7 := boxAt hw 7 rfl
        clear hLK hw
        have HWW := Lib.hid ((HBOX.out _).trans (HW.out.mono (HBOX.out _).size))
        by_cases hlt : j < l
        · by_cases hneg : M < 0
          · have hr := HLK.out
            rw [leftK_neg _ _ hneg] at hr
            have HR := Lib.hid hr; clear hr
            go_wp2_with (fail)
            go_ret
            exact ⟨ret_i64 (by rw [HLE.out, HR.out]), HWW.out⟩
          · have hjk : j < t.ks.length := by rw [HT.out.len]; exact hlt
            have hst := HLK.out
            rw [leftK_step _ _ _ hjk hneg] at hst
            obtain ⟨b, o, q, c', rfl, hkid, c0, c1, c2, c3, c4, c5, c6, c7⟩ := (HT.out.kids.stay HWW.out).get j hjk
            have hwk := wts_get hjk
            have hwt := wt_ks t
            have hlw := left_range (wt (tget t.ks j))
            have hlr1 := hlw.1 (tget t.ks j) M (Nat.le_refl _) hM0
            have HST := Lib.hid hst; have HK := Lib.hid hkid
            have HWK := Lib.hid hwk; have HWT := Lib.hid hwt; have HLR := Lib.hid hlr1
            clear hst hkid hwk hwt hlw hlr1 hjk hlr
            go_wp2_with (fail)
            refine (IH.out (tget t.ks j) _ q _ c' M _ (by have := HM.out; have := HWK.out; have := HWT.out; omega) HK.out (by omega) hM1).mono ?_
            rintro e w2 ⟨rfl, hb2⟩
            have HW2 := Lib.hid (HW.out.trans (hb2.mono HW.out.size))
            clear hb2 b7 c0 c1 c2 c3 c4 c5 c6 c7
            have hx0 : -1 ≤ leftT (tget t.ks j) M := HLR.out.2.1 (by omega)
            have hx1 : leftT (tget t.ks j) M ≤ 400 := by have := HLR.out.2.2; omega
            generalize hX : leftT (tget t.ks j) M = X at *
            have HX := Lib.hid hX; clear hX
            go_wp2
            go_roundw
            case rel => exact ⟨j + 1, X, by omega, by go_num, rfl, hx0, hx1, HST.out, HW2.out⟩
            case measure => simp [intOf]; omega
        · obtain rfl : j = l := by omega
          have hr := HLK.out
          rw [List.drop_eq_nil_of_le (by rw [HT.out.len]; exact Nat.le_refl _), leftK_nil] at hr
          have HR := Lib.hid hr; clear hr
          go_wp2_with (fail)
          go_ret
          exact ⟨ret_i64 (by rw [HLE.out, HR.out]), HWW.out⟩

/-- Is it more than is gone through? -/
def greatB (t : Tm) : Bool := decide (leftT t 400 < 0)
theorem great_walk (t : Tm) (h : Hd) (p : Option Addr) (l c : Nat) (w : World) (hT : TmIs w h p l c t) :
    Calls Tryd.prog 8 #[.agg #[.int .u8 h.k, .int .u8 h.op, .int .i64 h.pl, .int .i64 h.n, .string h.name, .string h.arg, .string h.exn, .slice p l c]] w fun e w' => e = .returned (.bool (greatB t)) ∧ Below w.heap.size w w' := by
  obtain ⟨k, op, pl, nn, nm, ar, ex⟩ := h
  have hbox : ∀ O : Obj, Below w.heap.size w (w.alloc O) := fun O => (Below.refl _ _).alloc (Nat.le_refl _) _
  have HBOX := Lib.hid hbox; have HT := Lib.hid hT
  clear hT hbox
  go_enter Tryd.func8, Tryd.ntmps8
  go_wp2_with (fail)
  refine (left_walk _ t _ p l c 400 _ (Nat.le_refl _) (HT.out.below (HBOX.out _)) (by omega) (by omega)).mono ?_
  rintro e w1 ⟨rfl, hb⟩
  have HB := Lib.hid ((HBOX.out _).trans (hb.mono (HBOX.out _).size)); clear hb
  have hg : greatB t = decide (leftT t 400 < 0) := rfl
  have HG := Lib.hid hg; clear hg
  generalize leftT t 400 = X at *
  go_wp2
  go_ret
  exact ⟨ret_bool HG.out.symm, HB.out⟩

/-! ### What is not great is small -/
mutual
/-- Are all texts short? -/
def shortT : Tm → Prop
  | .node h l => longB h = false ∧ shortK l
def shortK : List Tm → Prop
  | [] => True
  | t :: ts => shortT t ∧ shortK ts
end
theorem shortT_eq (t : Tm) : shortT t = (longB t.h = false ∧ shortK t.ks) := by cases t; unfold shortT; rfl
theorem shortK_cons (t : Tm) (ts : List Tm) : shortK (t :: ts) = (shortT t ∧ shortK ts) := by conv => lhs; unfold shortK
theorem left_small : ∀ m : Nat, (∀ (t : Tm) (n : Int), wt t ≤ m → 0 ≤ n → 0 ≤ leftT t n → leftT t n = n - wt t ∧ shortT t) ∧ (∀ (ts : List Tm) (n : Int), wts ts ≤ m → 0 ≤ n → 0 ≤ leftK ts n → leftK ts n = n - wts ts ∧ shortK ts) := by
  intro m
  induction m with
  | zero =>
    refine ⟨fun t n h => by have := wt_pos t; omega, fun ts n h hn _ => ?_⟩
    cases ts with
    | nil => rw [leftK_nil, wts_nil]; exact ⟨by omega, by unfold shortK; trivial⟩
    | cons t ts => rw [wts_cons] at h; have := wt_pos t; omega
  | succ m ih =>
    have hT : ∀ (t : Tm) (n : Int), wt t ≤ m + 1 → 0 ≤ n → 0 ≤ leftT t n → leftT t n = n - wt t ∧ shortT t := by
      intro t n h hn h0
      rw [leftT_eq] at h0 ⊢
      rw [shortT_eq]
      cases hl : longB t.h
      · rw [hl] at h0
        simp only [Bool.false_eq_true, if_false] at h0 ⊢
        by_cases hn1 : n - 1 < 0
        · rw [leftK_neg _ _ hn1] at h0; omega
        · have hk := wt_ks t
          obtain ⟨h1, h2⟩ := ih.2 t.ks (n - 1) (by omega) (by omega) h0
          exact ⟨by omega, trivial, h2⟩
      · rw [hl] at h0
        simp at h0
    refine ⟨hT, ?_⟩
    intro ts
    induction ts with
    | nil => intro n _ hn _; rw [leftK_nil, wts_nil]; exact ⟨by omega, by unfold shortK; trivial⟩
    | cons t ts ihs =>
      intro n h hn h0
      rw [wts_cons] at h ⊢
      rw [leftK_cons] at h0 ⊢
      rw [shortK_cons]
      rw [if_neg (by omega)] at h0 ⊢
      by_cases hx : leftT t n < 0
      · rw [leftK_neg _ _ hx] at h0; omega
      · obtain ⟨h1, h2⟩ := hT t n (by omega) hn (by omega)
        obtain ⟨h3, h4⟩ := ihs (leftT t n) (by omega) (by omega) h0
        exact ⟨by omega, h2, h4⟩
/-- What is not great has 400 nodes at most, and short texts. -/
theorem small_of {t : Tm} (h : greatB t = false) : wt t ≤ 400 ∧ shortT t := by
  unfold greatB at h
  have h' := of_decide_eq_false h
  obtain ⟨h1, h2⟩ := (left_small (wt t)).1 t 400 (Nat.le_refl _) (by omega) (by omega)
  exact ⟨by omega, h2⟩
end Term
end Go.Proofs.YtpedmaomogigmaaDoor
