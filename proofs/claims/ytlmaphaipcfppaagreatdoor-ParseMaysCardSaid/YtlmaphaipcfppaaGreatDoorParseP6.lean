/- The program's reading of tokens: what the terms with words share. -/
import Derived.Test.YtlmaphaipcfppaaGreatDoorParseP5
namespace Go.Proofs.YtlmaphaipcfppaaGreatDoor
open Go.RowKit
set_option linter.unusedVariables false
set_option linter.unusedSimpArgs false
namespace Parse
open Token (Tok tel ToksAt)
open Term (Tm Hd TmIs Kids ret_bool ret_i64 Reads veil Flat tcells)
open Words (str_no str_yes NumLaid)
open Chars (isin BytesAt)

section
variable (ts : List Tok)
theorem parts_cons {m : Nat} {x : ByteArray} {xs : List ByteArray} {s : St} {q : St × List Tm} (h : partsF ts m (x :: xs) s = some q) :
    ∃ m1 r1 q1, m = m1 + 1 ∧ exprF ts m1 (if x = e0 then s else wantF ts s x) = some r1 ∧ partsF ts m1 xs r1.1 = some q1 ∧ q = (q1.1, r1.2 :: q1.2) := by
  cases m with
  | zero => unfold partsF at h; cases h
  | succ m =>
    unfold partsF at h
    obtain ⟨r1, h1, h2⟩ := Option.bind_eq_some_iff.1 h
    obtain ⟨q1, h3, h4⟩ := Option.map_eq_some_iff.1 h2
    exact ⟨m, r1, q1, rfl, h1, h3, h4.symm⟩
theorem parts_nil {m : Nat} {s : St} {q : St × List Tm} (h : partsF ts m [] s = some q) : q = (s, []) := by
  cases m with
  | zero => unfold partsF at h; cases h
  | succ m => unfold partsF at h; injection h with h; exact h.symm
theorem parts1 {m : Nat} {x : ByteArray} {s : St} {q : St × List Tm} (hx : x ≠ e0) (h : partsF ts m [x] s = some q) : ∃ m1 r1, m1 ≤ m ∧ exprF ts m1 (wantF ts s x) = some r1 ∧ q = (r1.1, [r1.2]) := by
  obtain ⟨m1, r1, q1, rfl, h1, h2, h3⟩ := parts_cons ts h
  rw [if_neg hx] at h1
  have h4 := parts_nil ts h2
  exact ⟨m1, r1, by omega, h1, by rw [h3, h4]⟩
theorem parts2 {m : Nat} {x y : ByteArray} {s : St} {q : St × List Tm} (hx : x ≠ e0) (hy : y ≠ e0) (h : partsF ts m [x, y] s = some q) :
    ∃ m1 r1 m2 r2, m1 ≤ m ∧ m2 ≤ m ∧ exprF ts m1 (wantF ts s x) = some r1 ∧ exprF ts m2 (wantF ts r1.1 y) = some r2 ∧ q = (r2.1, [r1.2, r2.2]) := by
  obtain ⟨m1, r1, q1, rfl, h1, h2, h3⟩ := parts_cons ts h
  rw [if_neg hx] at h1
  obtain ⟨m2, r2, h5, h6, h7⟩ := parts1 ts hy h2
  exact ⟨m1, r1, m2, r2, by omega, by omega, h1, h6, by rw [h3, h7]⟩
theorem parts0 {m : Nat} {s : St} {q : St × List Tm} (h : partsF ts m [e0] s = some q) : ∃ m1 r1, m1 ≤ m ∧ exprF ts m1 s = some r1 ∧ q = (r1.1, [r1.2]) := by
  obtain ⟨m1, r1, q1, rfl, h1, h2, h3⟩ := parts_cons ts h
  rw [if_pos rfl] at h1
  have h4 := parts_nil ts h2
  exact ⟨m1, r1, by omega, h1, by rw [h3, h4]⟩
theorem parts3 {m : Nat} {x y : ByteArray} {s : St} {q : St × List Tm} (hx : x ≠ e0) (hy : y ≠ e0) (h : partsF ts m [e0, x, y] s = some q) :
    ∃ m0 r0 m1 r1 m2 r2, m0 ≤ m ∧ m1 ≤ m ∧ m2 ≤ m ∧ exprF ts m0 s = some r0 ∧ exprF ts m1 (wantF ts r0.1 x) = some r1 ∧ exprF ts m2 (wantF ts r1.1 y) = some r2 ∧ q = (r2.1, [r0.2, r1.2, r2.2]) := by
  obtain ⟨m0, r0, q1, rfl, h1, h2, h3⟩ := parts_cons ts h
  rw [if_pos rfl] at h1
  obtain ⟨m1, r1, m2, r2, h5, h6, h7, h8, h9⟩ := parts2 ts hx hy h2
  exact ⟨m0, r0, m1, r1, m2, r2, by omega, by omega, by omega, h1, h7, h8, by rw [h3, h9]⟩
theorem then_bad {m : Nat} {x : ByteArray} {s : St} {r : St × Tm} (h : s.bad = true) (he : exprF ts m (wantF ts s x) = some r) : r.1 = s := by
  rw [want_bad ts h] at he
  exact expr_bad ts h he
theorem get_ok {i : Nat} {k : Int} (h : (tel ts i).k = k) : getF ts ⟨i, false⟩ k = ⟨i + 1, false⟩ ∧ getS ts ⟨i, false⟩ k = (tel ts i).s := by
  unfold getF getS; rw [if_neg (by simp [h]), if_neg (by simp [h])]; exact ⟨rfl, rfl⟩
theorem get_no {i : Nat} {k : Int} (h : (tel ts i).k ≠ k) : getF ts ⟨i, false⟩ k = ⟨i, true⟩ := by
  unfold getF; rw [if_pos (.inr h)]
end
theorem ne_e0 : wIs ≠ e0 ∧ wIn ≠ e0 ∧ wArrow ≠ e0 ∧ wThen ≠ e0 ∧ wElse ≠ e0 := by decide +kernel

theorem set_block {w : World} {N j : Nat} {cs : Array Value} {ty : TypeId} {v : Value} (h : w.heap[N]? = some (.cells cs ty (0, 0))) : (w.setCell ⟨N, j, none⟩ v).heap[N]? = some (.cells (cs.setIfInBounds j v) ty (0, 0)) := by
  simp [World.setCell, Array.getElem?_modify, h]
theorem set_new (w : World) (N j : Nat) (v : Value) : Below N w (w.setCell ⟨N, j, none⟩ v) := (Below.refl N w).setCell (show N ≤ N from Nat.le_refl N) v
theorem kid_up {P : Nat} {w wa wb W : World} {h : Hd} {p : Option Addr} {l d : Nat} {t : Tm} (hT : TmIs (fresh wa.heap.size wb) h p l d t) (hw : w.heap.size < wa.heap.size) (hP : P < w.heap.size) (ho : Off P wb W) : TmIs (fresh (w.heap.size + 1) W) h p l d t :=
  hT.reads' (fresh_off (by omega) (by omega) ho)
/-- A term of kids is handed back. -/
theorem node_end {P g n c : Nat} {ts : List Tok} {r : St × Tm} {w w6 W : World} {b L : Nat} {k a : Int} {nm ar ex : ByteArray} {xs : List Value} {kids : List Tm} {ty : TypeId} (hr : r.1.bad = false) (hr2 : r.2 = .node ⟨k, 0, a, 0, nm, ar, ex⟩ kids)
    (hrow : w6.heap[b]? = some (.cells xs.toArray ty (0, 0))) (hb : w.heap.size < b) (hf : Flat (fresh (w.heap.size + 1) w6) xs kids) (hL : kids.length = L) (hl : L ≤ maxLen) (hd : Term.HdOk ⟨k, 0, a, 0, nm, ar, ex⟩) (ho : Off P w w6) (hp : PR w6 P g n c r.1.i ts) (hold : P < w.heap.size ∧ g < w.heap.size)
    (hW : ∀ j, j ≠ w.heap.size → W.heap[j]? = w6.heap[j]?) (hBW : Below w.heap.size w6 W) :
    PartB w.heap.size P g n c ts r w (.returned (.agg #[.int .u8 k, .int .u8 0, .int .i64 a, .int .i64 0, .string nm, .string ar, .string ex, .slice (some ⟨b, 0, none⟩) L L])) W := by
  subst hL
  have hT := tm_row (V := fun i => decide (w.heap.size + 1 ≤ i)) (h := ⟨k, 0, a, 0, nm, ar, ex⟩) (decide_eq_true hb) hrow hf hd hl
  refine .inl ⟨hr, ⟨⟨k, 0, a, 0, nm, ar, ex⟩, some ⟨b, 0, none⟩, kids.length, kids.length, rfl, ?_⟩, ho.then hBW, hp.keep hBW hold.1 hold.2⟩
  rw [hr2]
  exact hT.reads' (fresh_box (B := w.heap.size) (by omega) (by omega) fun j hj _ => hW j hj)
theorem hd_any {k pl : Int} {nm ar ex : ByteArray} (hk : 0 ≤ k ∧ k ≤ 255) (hp : -9223372036854775808 ≤ pl ∧ pl ≤ 9223372036854775807) (h1 : nm.size ≤ 70000) (h2 : ar.size ≤ 70000) (h3 : ex.size ≤ 70000) : Term.HdOk ⟨k, 0, pl, 0, nm, ar, ex⟩ :=
  ⟨hk, ⟨Int.le_refl _, by show (0 : Int) ≤ 255; omega⟩, hp, small0, by unfold maxLen; show nm.size ≤ _; omega, by unfold maxLen; show ar.size ≤ _; omega, by unfold maxLen; show ex.size ≤ _; omega⟩
theorem e0_small : (⟨#[]⟩ : ByteArray).size ≤ 70000 := by decide
theorem unary_bad (ts : List Tok) {n : Nat} {s : St} {r : St × Tm} (h : s.bad = true) (he : unaryF ts n s = some r) : r.1 = s := by
  cases n with
  | zero => unfold unaryF at he; cases he
  | succ n => unfold unaryF at he; rw [if_pos h] at he; injection he with he; rw [← he]
end Parse
end Go.Proofs.YtlmaphaipcfppaaGreatDoor
