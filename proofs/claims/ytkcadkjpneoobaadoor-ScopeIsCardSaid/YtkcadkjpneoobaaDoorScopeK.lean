/- The document's example of scope. -/
import Derived.Test.YtkcadkjpneoobaaDoorScopeH
import Derived.Test.YtkcadkjpneoobaaDoorScopeJ
import Derived.Test.YtkcadkjpneoobaaDoorGTermE
namespace Go.Proofs.YtkcadkjpneoobaaDoor
open Go.RowKit
set_option linter.unusedVariables false
set_option linter.unusedSimpArgs false
namespace Scope
open Term (Tm Hd TmIs ret_bool ret_i64 tget wt wts wts_cons wts_nil drop_tget tcells mayT Flat)
open Words (str_no str_yes sel)

theorem kids_blk {W : World} {b : Nat} {ty : TypeId} {xs : List Value} {ts : List Tm} (hb : W.heap[b]? = some (.cells xs.toArray ty (0, 0))) (hf : Flat W xs ts) : Term.Kids W (some ⟨b, 0, none⟩) ts :=
  Term.kids_of_flat (xs := xs) (fun j u hu => by simp [World.cell?, hb, hu]) hf
/-- A slice of one term, just laid. -/
theorem kids_lit {w : World} {h : Hd} {q : Option Addr} {l c : Nat} {t : Tm} (hT : TmIs w h q l c t) (ty : TypeId) : Term.Kids (w.alloc (.cells #[.int .u8 h.k, .int .u8 h.op, .int .i64 h.pl, .int .i64 h.n, .string h.name, .string h.arg, .string h.exn, .slice q l c] ty)) (some ⟨w.heap.size, 0, none⟩) [t] :=
  kids_blk (xs := tcells h q l c) (heap_alloc_new w _) ((Flat.one hT).stay ((Below.refl _ _).alloc (Nat.le_refl _) _))
def wY : ByteArray := ⟨#[121]⟩
def wX : ByteArray := ⟨#[120]⟩
def varN (x : ByteArray) : Tm := .node ⟨2, 0, 0, 0, x, ⟨#[]⟩, ⟨#[]⟩⟩ []
def exA : Tm := .node ⟨10, 0, 0, 0, ⟨#[]⟩, ⟨#[]⟩, ⟨#[]⟩⟩ [varN wY, varN wX]
def exF : Tm := .node ⟨11, 0, 0, 0, ⟨#[]⟩, wX, ⟨#[]⟩⟩ [exA]
theorem hdOk (k : Int) (x y : ByteArray) (hk : 0 ≤ k ∧ k ≤ 255) (hx : x.size ≤ maxLen) (hy : y.size ≤ maxLen) : Term.HdOk ⟨k, 0, 0, 0, x, y, ⟨#[]⟩⟩ :=
  ⟨hk, ⟨by show (0 : Int) ≤ 0; omega, by show (0 : Int) ≤ 255; omega⟩, ⟨by show (-9223372036854775808 : Int) ≤ 0; omega, by show (0 : Int) ≤ _; omega⟩, ⟨by show (-9223372036854775808 : Int) ≤ 0; omega, by show (0 : Int) ≤ _; omega⟩, hx, hy, by unfold maxLen; show (0 : Nat) ≤ _; omega⟩
theorem var_is (W : World) (x : ByteArray) (hx : x.size ≤ maxLen) : TmIs W ⟨2, 0, 0, 0, x, ⟨#[]⟩, ⟨#[]⟩⟩ none 0 0 (varN x) :=
  ⟨rfl, rfl, hdOk 2 x ⟨#[]⟩ (by omega) hx (by unfold maxLen; show (0 : Nat) ≤ _; omega), ⟨Nat.le_refl _, by unfold maxLen; omega⟩, .nokids _⟩
set_option maxHeartbeats 3200000 in
theorem var_walk (x : ByteArray) (w : World) :
    Calls Tryd.prog 21 #[.string x] w fun e w' => e = .returned (.agg #[.int .u8 2, .int .u8 0, .int .i64 0, .int .i64 0, .string x, .string ⟨#[]⟩, .string ⟨#[]⟩, .slice none 0 0]) ∧ Below w.heap.size w w' := by
  have hal : ∀ O : Obj, Below w.heap.size w (w.alloc O) := fun O => (Below.refl _ _).alloc (Nat.le_refl _) O
  have HA := Lib.hid hal
  clear hal
  go_enter Tryd.func21, Tryd.ntmps21
  go_wp2_with (fail)
  refine bodyPost_ret (v := .agg #[.int .u8 2, .int .u8 0, .int .i64 0, .int .i64 0, .string x, .string ⟨#[]⟩, .string ⟨#[]⟩, .slice none 0 0]) (by simp [results, Tryd.results21, go_sem]) rfl ⟨rfl, ?_⟩
  exact HA.out _
theorem exF_free : metF freeP [exF] = [wY] := by kernel_rfl
theorem exF_closed : closedF [] exF = (0, 4) := by kernel_rfl
theorem hdE (k : Int) (y : ByteArray) (hk : 0 ≤ k ∧ k ≤ 255) (hy : y.size ≤ 100) : Term.HdOk ⟨k, 0, 0, 0, ⟨#[]⟩, y, ⟨#[]⟩⟩ := hdOk k ⟨#[]⟩ y hk (by unfold maxLen; show (0 : Nat) ≤ _; omega) (by unfold maxLen; omega)
/-- The example's term in memory. -/
theorem exF_is {W : World} {b : Nat} {ty ty' : TypeId} (h1 : W.heap[b]? = some (.cells #[.int .u8 2, .int .u8 0, .int .i64 0, .int .i64 0, .string wY, .string ⟨#[]⟩, .string ⟨#[]⟩, .slice none 0 0, .int .u8 2, .int .u8 0, .int .i64 0, .int .i64 0, .string wX, .string ⟨#[]⟩, .string ⟨#[]⟩, .slice none 0 0] ty (0, 0)))
    (h2 : W.heap[b + 1]? = some (.cells #[.int .u8 10, .int .u8 0, .int .i64 0, .int .i64 0, .string ⟨#[]⟩, .string ⟨#[]⟩, .string ⟨#[]⟩, .slice (some ⟨b, 0, none⟩) 2 2] ty' (0, 0))) : TmIs W ⟨11, 0, 0, 0, ⟨#[]⟩, wX, ⟨#[]⟩⟩ (some ⟨b + 1, 0, none⟩) 1 1 exF := by
  have k1 : Term.Kids W (some ⟨b, 0, none⟩) [varN wY, varN wX] := kids_blk (xs := tcells ⟨2, 0, 0, 0, wY, ⟨#[]⟩, ⟨#[]⟩⟩ none 0 0 ++ tcells ⟨2, 0, 0, 0, wX, ⟨#[]⟩, ⟨#[]⟩⟩ none 0 0) h1 ((Flat.one (var_is W wY (by unfold maxLen; show (1 : Nat) ≤ _; omega))).append (Flat.one (var_is W wX (by unfold maxLen; show (1 : Nat) ≤ _; omega))))
  have t1 : TmIs W ⟨10, 0, 0, 0, ⟨#[]⟩, ⟨#[]⟩, ⟨#[]⟩⟩ (some ⟨b, 0, none⟩) 2 2 exA := ⟨rfl, rfl, hdE 10 ⟨#[]⟩ (by omega) (by show (0 : Nat) ≤ _; omega), ⟨Nat.le_refl _, by unfold maxLen; omega⟩, k1⟩
  exact ⟨rfl, rfl, hdE 11 wX (by omega) (by show (1 : Nat) ≤ _; omega), ⟨Nat.le_refl _, by unfold maxLen; omega⟩, kids_blk (xs := tcells ⟨10, 0, 0, 0, ⟨#[]⟩, ⟨#[]⟩, ⟨#[]⟩⟩ (some ⟨b, 0, none⟩) 2 2) h2 (Flat.one t1)⟩
set_option maxRecDepth 100000 in
set_option maxHeartbeats 6400000 in
theorem awake_walk (w : World) (hkw : Words.KwLaid w) :
    Calls Tryd.prog 9 #[] w fun e w' => e = .returned (.bool true) ∧ Below w.heap.size w w' := by
  have HKW := Lib.hid hkw
  clear hkw
  go_enter Tryd.func9, Tryd.ntmps9
  go_wp2_with (fail)
  refine (var_walk ⟨#[121]⟩ w).mono ?_
  rintro e w1 ⟨rfl, hb1⟩
  have HB1 := Lib.hid hb1
  clear hb1
  go_wp2_with (fail)
  refine (var_walk ⟨#[120]⟩ w1).mono ?_
  rintro e w2 ⟨rfl, hb2⟩
  have HB2 := Lib.hid (HB1.out.trans (hb2.mono HB1.out.size))
  clear hb2
  go_wp2_with (fail)
  have z1 : (w2.alloc (.cells #[.int .u8 2, .int .u8 0, .int .i64 0, .int .i64 0, .string ⟨#[121]⟩, .string ⟨#[]⟩, .string ⟨#[]⟩, .slice none 0 0, .int .u8 2, .int .u8 0, .int .i64 0, .int .i64 0, .string ⟨#[120]⟩, .string ⟨#[]⟩, .string ⟨#[]⟩, .slice none 0 0] 27)).heap.size = w2.heap.size + 1 := by simp
  have z2 : ((w2.alloc (.cells #[.int .u8 2, .int .u8 0, .int .i64 0, .int .i64 0, .string ⟨#[121]⟩, .string ⟨#[]⟩, .string ⟨#[]⟩, .slice none 0 0, .int .u8 2, .int .u8 0, .int .i64 0, .int .i64 0, .string ⟨#[120]⟩, .string ⟨#[]⟩, .string ⟨#[]⟩, .slice none 0 0] 27)).alloc (.cells #[.int .u8 10, .int .u8 0, .int .i64 0, .int .i64 0, .string ⟨#[]⟩, .string ⟨#[]⟩, .string ⟨#[]⟩, .slice (some ⟨w2.heap.size, 0, none⟩) 2 2] 27)).heap.size = w2.heap.size + 1 + 1 := by simp
  have z3 : (((w2.alloc (.cells #[.int .u8 2, .int .u8 0, .int .i64 0, .int .i64 0, .string ⟨#[121]⟩, .string ⟨#[]⟩, .string ⟨#[]⟩, .slice none 0 0, .int .u8 2, .int .u8 0, .int .i64 0, .int .i64 0, .string ⟨#[120]⟩, .string ⟨#[]⟩, .string ⟨#[]⟩, .slice none 0 0] 27)).alloc (.cells #[.int .u8 10, .int .u8 0, .int .i64 0, .int .i64 0, .string ⟨#[]⟩, .string ⟨#[]⟩, .string ⟨#[]⟩, .slice (some ⟨w2.heap.size, 0, none⟩) 2 2] 27)).alloc (.cells #[.int .u8 11, .int .u8 0, .int .i64 0, .int .i64 0, .string ⟨#[]⟩, .string ⟨#[120]⟩, .string ⟨#[]⟩, .slice (some ⟨w2.heap.size + 1, 0, none⟩) 1 1] 27)).heap.size = w2.heap.size + 1 + 1 + 1 := by simp
  have a1 : Below w2.heap.size w2 (w2.alloc (.cells #[.int .u8 2, .int .u8 0, .int .i64 0, .int .i64 0, .string ⟨#[121]⟩, .string ⟨#[]⟩, .string ⟨#[]⟩, .slice none 0 0, .int .u8 2, .int .u8 0, .int .i64 0, .int .i64 0, .string ⟨#[120]⟩, .string ⟨#[]⟩, .string ⟨#[]⟩, .slice none 0 0] 27)) := (Below.refl _ _).alloc (Nat.le_refl _) _
  have a2 : Below (w2.heap.size + 1) (w2.alloc (.cells #[.int .u8 2, .int .u8 0, .int .i64 0, .int .i64 0, .string ⟨#[121]⟩, .string ⟨#[]⟩, .string ⟨#[]⟩, .slice none 0 0, .int .u8 2, .int .u8 0, .int .i64 0, .int .i64 0, .string ⟨#[120]⟩, .string ⟨#[]⟩, .string ⟨#[]⟩, .slice none 0 0] 27)) ((w2.alloc (.cells #[.int .u8 2, .int .u8 0, .int .i64 0, .int .i64 0, .string ⟨#[121]⟩, .string ⟨#[]⟩, .string ⟨#[]⟩, .slice none 0 0, .int .u8 2, .int .u8 0, .int .i64 0, .int .i64 0, .string ⟨#[120]⟩, .string ⟨#[]⟩, .string ⟨#[]⟩, .slice none 0 0] 27)).alloc (.cells #[.int .u8 10, .int .u8 0, .int .i64 0, .int .i64 0, .string ⟨#[]⟩, .string ⟨#[]⟩, .string ⟨#[]⟩, .slice (some ⟨w2.heap.size, 0, none⟩) 2 2] 27)) := (Below.refl _ _).alloc (by omega) _
  have a3 : Below (w2.heap.size + 1 + 1) ((w2.alloc (.cells #[.int .u8 2, .int .u8 0, .int .i64 0, .int .i64 0, .string ⟨#[121]⟩, .string ⟨#[]⟩, .string ⟨#[]⟩, .slice none 0 0, .int .u8 2, .int .u8 0, .int .i64 0, .int .i64 0, .string ⟨#[120]⟩, .string ⟨#[]⟩, .string ⟨#[]⟩, .slice none 0 0] 27)).alloc (.cells #[.int .u8 10, .int .u8 0, .int .i64 0, .int .i64 0, .string ⟨#[]⟩, .string ⟨#[]⟩, .string ⟨#[]⟩, .slice (some ⟨w2.heap.size, 0, none⟩) 2 2] 27)) (((w2.alloc (.cells #[.int .u8 2, .int .u8 0, .int .i64 0, .int .i64 0, .string ⟨#[121]⟩, .string ⟨#[]⟩, .string ⟨#[]⟩, .slice none 0 0, .int .u8 2, .int .u8 0, .int .i64 0, .int .i64 0, .string ⟨#[120]⟩, .string ⟨#[]⟩, .string ⟨#[]⟩, .slice none 0 0] 27)).alloc (.cells #[.int .u8 10, .int .u8 0, .int .i64 0, .int .i64 0, .string ⟨#[]⟩, .string ⟨#[]⟩, .string ⟨#[]⟩, .slice (some ⟨w2.heap.size, 0, none⟩) 2 2] 27)).alloc (.cells #[.int .u8 11, .int .u8 0, .int .i64 0, .int .i64 0, .string ⟨#[]⟩, .string ⟨#[120]⟩, .string ⟨#[]⟩, .slice (some ⟨w2.heap.size + 1, 0, none⟩) 1 1] 27)) := (Below.refl _ _).alloc (by omega) _
  have a13 : Below w2.heap.size w2 (((w2.alloc (.cells #[.int .u8 2, .int .u8 0, .int .i64 0, .int .i64 0, .string ⟨#[121]⟩, .string ⟨#[]⟩, .string ⟨#[]⟩, .slice none 0 0, .int .u8 2, .int .u8 0, .int .i64 0, .int .i64 0, .string ⟨#[120]⟩, .string ⟨#[]⟩, .string ⟨#[]⟩, .slice none 0 0] 27)).alloc (.cells #[.int .u8 10, .int .u8 0, .int .i64 0, .int .i64 0, .string ⟨#[]⟩, .string ⟨#[]⟩, .string ⟨#[]⟩, .slice (some ⟨w2.heap.size, 0, none⟩) 2 2] 27)).alloc (.cells #[.int .u8 11, .int .u8 0, .int .i64 0, .int .i64 0, .string ⟨#[]⟩, .string ⟨#[120]⟩, .string ⟨#[]⟩, .slice (some ⟨w2.heap.size + 1, 0, none⟩) 1 1] 27)) := (a1.trans (a2.mono (by omega))).trans (a3.mono (by omega))
  have h1 : (((w2.alloc (.cells #[.int .u8 2, .int .u8 0, .int .i64 0, .int .i64 0, .string ⟨#[121]⟩, .string ⟨#[]⟩, .string ⟨#[]⟩, .slice none 0 0, .int .u8 2, .int .u8 0, .int .i64 0, .int .i64 0, .string ⟨#[120]⟩, .string ⟨#[]⟩, .string ⟨#[]⟩, .slice none 0 0] 27)).alloc (.cells #[.int .u8 10, .int .u8 0, .int .i64 0, .int .i64 0, .string ⟨#[]⟩, .string ⟨#[]⟩, .string ⟨#[]⟩, .slice (some ⟨w2.heap.size, 0, none⟩) 2 2] 27)).alloc (.cells #[.int .u8 11, .int .u8 0, .int .i64 0, .int .i64 0, .string ⟨#[]⟩, .string ⟨#[120]⟩, .string ⟨#[]⟩, .slice (some ⟨w2.heap.size + 1, 0, none⟩) 1 1] 27)).heap[w2.heap.size]? = some (.cells #[.int .u8 2, .int .u8 0, .int .i64 0, .int .i64 0, .string wY, .string ⟨#[]⟩, .string ⟨#[]⟩, .slice none 0 0, .int .u8 2, .int .u8 0, .int .i64 0, .int .i64 0, .string wX, .string ⟨#[]⟩, .string ⟨#[]⟩, .slice none 0 0] 27 (0, 0)) := (a3.block _ (by omega)).trans ((a2.block _ (by omega)).trans (heap_alloc_new w2 _))
  have h2 : (((w2.alloc (.cells #[.int .u8 2, .int .u8 0, .int .i64 0, .int .i64 0, .string ⟨#[121]⟩, .string ⟨#[]⟩, .string ⟨#[]⟩, .slice none 0 0, .int .u8 2, .int .u8 0, .int .i64 0, .int .i64 0, .string ⟨#[120]⟩, .string ⟨#[]⟩, .string ⟨#[]⟩, .slice none 0 0] 27)).alloc (.cells #[.int .u8 10, .int .u8 0, .int .i64 0, .int .i64 0, .string ⟨#[]⟩, .string ⟨#[]⟩, .string ⟨#[]⟩, .slice (some ⟨w2.heap.size, 0, none⟩) 2 2] 27)).alloc (.cells #[.int .u8 11, .int .u8 0, .int .i64 0, .int .i64 0, .string ⟨#[]⟩, .string ⟨#[120]⟩, .string ⟨#[]⟩, .slice (some ⟨w2.heap.size + 1, 0, none⟩) 1 1] 27)).heap[w2.heap.size + 1]? = some (.cells #[.int .u8 10, .int .u8 0, .int .i64 0, .int .i64 0, .string ⟨#[]⟩, .string ⟨#[]⟩, .string ⟨#[]⟩, .slice (some ⟨w2.heap.size, 0, none⟩) 2 2] 27 (0, 0)) := (a3.block _ (by omega)).trans (by rw [← z1]; exact heap_alloc_new (w2.alloc (.cells #[.int .u8 2, .int .u8 0, .int .i64 0, .int .i64 0, .string ⟨#[121]⟩, .string ⟨#[]⟩, .string ⟨#[]⟩, .slice none 0 0, .int .u8 2, .int .u8 0, .int .i64 0, .int .i64 0, .string ⟨#[120]⟩, .string ⟨#[]⟩, .string ⟨#[]⟩, .slice none 0 0] 27)) _)
  have h3 : (((w2.alloc (.cells #[.int .u8 2, .int .u8 0, .int .i64 0, .int .i64 0, .string ⟨#[121]⟩, .string ⟨#[]⟩, .string ⟨#[]⟩, .slice none 0 0, .int .u8 2, .int .u8 0, .int .i64 0, .int .i64 0, .string ⟨#[120]⟩, .string ⟨#[]⟩, .string ⟨#[]⟩, .slice none 0 0] 27)).alloc (.cells #[.int .u8 10, .int .u8 0, .int .i64 0, .int .i64 0, .string ⟨#[]⟩, .string ⟨#[]⟩, .string ⟨#[]⟩, .slice (some ⟨w2.heap.size, 0, none⟩) 2 2] 27)).alloc (.cells #[.int .u8 11, .int .u8 0, .int .i64 0, .int .i64 0, .string ⟨#[]⟩, .string ⟨#[120]⟩, .string ⟨#[]⟩, .slice (some ⟨w2.heap.size + 1, 0, none⟩) 1 1] 27)).heap[w2.heap.size + 1 + 1]? = some (.cells #[.int .u8 11, .int .u8 0, .int .i64 0, .int .i64 0, .string ⟨#[]⟩, .string wX, .string ⟨#[]⟩, .slice (some ⟨w2.heap.size + 1, 0, none⟩) 1 1] 27 (0, 0)) := by rw [← z2]; exact heap_alloc_new ((w2.alloc (.cells #[.int .u8 2, .int .u8 0, .int .i64 0, .int .i64 0, .string ⟨#[121]⟩, .string ⟨#[]⟩, .string ⟨#[]⟩, .slice none 0 0, .int .u8 2, .int .u8 0, .int .i64 0, .int .i64 0, .string ⟨#[120]⟩, .string ⟨#[]⟩, .string ⟨#[]⟩, .slice none 0 0] 27)).alloc (.cells #[.int .u8 10, .int .u8 0, .int .i64 0, .int .i64 0, .string ⟨#[]⟩, .string ⟨#[]⟩, .string ⟨#[]⟩, .slice (some ⟨w2.heap.size, 0, none⟩) 2 2] 27)) _
  have hT := exF_is h1 h2
  have hk := kids_lit hT 27
  rw [z3] at hk
  have hal : Below (((w2.alloc (.cells #[.int .u8 2, .int .u8 0, .int .i64 0, .int .i64 0, .string ⟨#[121]⟩, .string ⟨#[]⟩, .string ⟨#[]⟩, .slice none 0 0, .int .u8 2, .int .u8 0, .int .i64 0, .int .i64 0, .string ⟨#[120]⟩, .string ⟨#[]⟩, .string ⟨#[]⟩, .slice none 0 0] 27)).alloc (.cells #[.int .u8 10, .int .u8 0, .int .i64 0, .int .i64 0, .string ⟨#[]⟩, .string ⟨#[]⟩, .string ⟨#[]⟩, .slice (some ⟨w2.heap.size, 0, none⟩) 2 2] 27)).alloc (.cells #[.int .u8 11, .int .u8 0, .int .i64 0, .int .i64 0, .string ⟨#[]⟩, .string ⟨#[120]⟩, .string ⟨#[]⟩, .slice (some ⟨w2.heap.size + 1, 0, none⟩) 1 1] 27)).heap.size (((w2.alloc (.cells #[.int .u8 2, .int .u8 0, .int .i64 0, .int .i64 0, .string ⟨#[121]⟩, .string ⟨#[]⟩, .string ⟨#[]⟩, .slice none 0 0, .int .u8 2, .int .u8 0, .int .i64 0, .int .i64 0, .string ⟨#[120]⟩, .string ⟨#[]⟩, .string ⟨#[]⟩, .slice none 0 0] 27)).alloc (.cells #[.int .u8 10, .int .u8 0, .int .i64 0, .int .i64 0, .string ⟨#[]⟩, .string ⟨#[]⟩, .string ⟨#[]⟩, .slice (some ⟨w2.heap.size, 0, none⟩) 2 2] 27)).alloc (.cells #[.int .u8 11, .int .u8 0, .int .i64 0, .int .i64 0, .string ⟨#[]⟩, .string ⟨#[120]⟩, .string ⟨#[]⟩, .slice (some ⟨w2.heap.size + 1, 0, none⟩) 1 1] 27)) ((((w2.alloc (.cells #[.int .u8 2, .int .u8 0, .int .i64 0, .int .i64 0, .string ⟨#[121]⟩, .string ⟨#[]⟩, .string ⟨#[]⟩, .slice none 0 0, .int .u8 2, .int .u8 0, .int .i64 0, .int .i64 0, .string ⟨#[120]⟩, .string ⟨#[]⟩, .string ⟨#[]⟩, .slice none 0 0] 27)).alloc (.cells #[.int .u8 10, .int .u8 0, .int .i64 0, .int .i64 0, .string ⟨#[]⟩, .string ⟨#[]⟩, .string ⟨#[]⟩, .slice (some ⟨w2.heap.size, 0, none⟩) 2 2] 27)).alloc (.cells #[.int .u8 11, .int .u8 0, .int .i64 0, .int .i64 0, .string ⟨#[]⟩, .string ⟨#[120]⟩, .string ⟨#[]⟩, .slice (some ⟨w2.heap.size + 1, 0, none⟩) 1 1] 27)).alloc (.cells #[.int .u8 11, .int .u8 0, .int .i64 0, .int .i64 0, .string ⟨#[]⟩, .string ⟨#[120]⟩, .string ⟨#[]⟩, .slice (some ⟨w2.heap.size + 1, 0, none⟩) 1 1] 27)) := (Below.refl _ _).alloc (Nat.le_refl _) _
  have hw4 : Below w.heap.size w ((((w2.alloc (.cells #[.int .u8 2, .int .u8 0, .int .i64 0, .int .i64 0, .string ⟨#[121]⟩, .string ⟨#[]⟩, .string ⟨#[]⟩, .slice none 0 0, .int .u8 2, .int .u8 0, .int .i64 0, .int .i64 0, .string ⟨#[120]⟩, .string ⟨#[]⟩, .string ⟨#[]⟩, .slice none 0 0] 27)).alloc (.cells #[.int .u8 10, .int .u8 0, .int .i64 0, .int .i64 0, .string ⟨#[]⟩, .string ⟨#[]⟩, .string ⟨#[]⟩, .slice (some ⟨w2.heap.size, 0, none⟩) 2 2] 27)).alloc (.cells #[.int .u8 11, .int .u8 0, .int .i64 0, .int .i64 0, .string ⟨#[]⟩, .string ⟨#[120]⟩, .string ⟨#[]⟩, .slice (some ⟨w2.heap.size + 1, 0, none⟩) 1 1] 27)).alloc (.cells #[.int .u8 11, .int .u8 0, .int .i64 0, .int .i64 0, .string ⟨#[]⟩, .string ⟨#[120]⟩, .string ⟨#[]⟩, .slice (some ⟨w2.heap.size + 1, 0, none⟩) 1 1] 27)) := HB2.out.trans ((a13.trans (hal.mono a13.size)).mono HB2.out.size)
  have hfr := scopeFree_walk [exF] _ 1 1 _ hk rfl (by unfold maxLen; omega) (by decide) (HKW.out.below hw4)
  rw [exF_free] at hfr
  have hX : ∀ W, Below ((((w2.alloc (.cells #[.int .u8 2, .int .u8 0, .int .i64 0, .int .i64 0, .string ⟨#[121]⟩, .string ⟨#[]⟩, .string ⟨#[]⟩, .slice none 0 0, .int .u8 2, .int .u8 0, .int .i64 0, .int .i64 0, .string ⟨#[120]⟩, .string ⟨#[]⟩, .string ⟨#[]⟩, .slice none 0 0] 27)).alloc (.cells #[.int .u8 10, .int .u8 0, .int .i64 0, .int .i64 0, .string ⟨#[]⟩, .string ⟨#[]⟩, .string ⟨#[]⟩, .slice (some ⟨w2.heap.size, 0, none⟩) 2 2] 27)).alloc (.cells #[.int .u8 11, .int .u8 0, .int .i64 0, .int .i64 0, .string ⟨#[]⟩, .string ⟨#[120]⟩, .string ⟨#[]⟩, .slice (some ⟨w2.heap.size + 1, 0, none⟩) 1 1] 27)).alloc (.cells #[.int .u8 11, .int .u8 0, .int .i64 0, .int .i64 0, .string ⟨#[]⟩, .string ⟨#[120]⟩, .string ⟨#[]⟩, .slice (some ⟨w2.heap.size + 1, 0, none⟩) 1 1] 27)).heap.size ((((w2.alloc (.cells #[.int .u8 2, .int .u8 0, .int .i64 0, .int .i64 0, .string ⟨#[121]⟩, .string ⟨#[]⟩, .string ⟨#[]⟩, .slice none 0 0, .int .u8 2, .int .u8 0, .int .i64 0, .int .i64 0, .string ⟨#[120]⟩, .string ⟨#[]⟩, .string ⟨#[]⟩, .slice none 0 0] 27)).alloc (.cells #[.int .u8 10, .int .u8 0, .int .i64 0, .int .i64 0, .string ⟨#[]⟩, .string ⟨#[]⟩, .string ⟨#[]⟩, .slice (some ⟨w2.heap.size, 0, none⟩) 2 2] 27)).alloc (.cells #[.int .u8 11, .int .u8 0, .int .i64 0, .int .i64 0, .string ⟨#[]⟩, .string ⟨#[120]⟩, .string ⟨#[]⟩, .slice (some ⟨w2.heap.size + 1, 0, none⟩) 1 1] 27)).alloc (.cells #[.int .u8 11, .int .u8 0, .int .i64 0, .int .i64 0, .string ⟨#[]⟩, .string ⟨#[120]⟩, .string ⟨#[]⟩, .slice (some ⟨w2.heap.size + 1, 0, none⟩) 1 1] 27)) W → W.heap[w2.heap.size + 1 + 1]? = some (.cells #[.int .u8 11, .int .u8 0, .int .i64 0, .int .i64 0, .string ⟨#[]⟩, .string wX, .string ⟨#[]⟩, .slice (some ⟨w2.heap.size + 1, 0, none⟩) 1 1] 27 (0, 0)) ∧ TmIs W ⟨11, 0, 0, 0, ⟨#[]⟩, wX, ⟨#[]⟩⟩ (some ⟨w2.heap.size + 1, 0, none⟩) 1 1 exF ∧ Below w.heap.size w W :=
    fun W hb => ⟨(hb.block _ (by simp)).trans ((hal.block _ (lt_of_block h3)).trans h3), (hT.below hal).below hb, hw4.trans (hb.mono hw4.size)⟩
  have HFR := Lib.hid hfr; have HX := Lib.hid hX
  clear z1 z2 z3 a1 a2 a3 a13 h1 h2 h3 hT hk hal hw4 hfr hX
  refine HFR.out.mono ?_
  rintro e w5 ⟨v, rfl, hn, hb5⟩
  obtain ⟨x1, x2, x3⟩ := HX.out w5 hb5
  obtain ⟨⟨b0, b1, b2, b3, b4, b5, b6, b7⟩, f0, f1, f2, f3, f4, f5, f6, f7⟩ := cells8' x1
  have bl := lt_of_block x1
  have hcl := closed_walk none 0 0 [] _ _ 1 1 exF w5 rfl (by unfold maxLen; omega) (.inl rfl) x2 (HKW.out.below x3)
  rw [exF_closed] at hcl
  obtain ⟨p5, d5, hv5, _⟩ := hn.slice
  subst hv5
  have hst := hn.strs.2
  obtain ⟨g5, o5, rfl, hc5⟩ : ∃ g o, p5 = some ⟨g, o, none⟩ ∧ w5.cell? ⟨g, o, none⟩ = some (.string ⟨#[121]⟩) := by
    rcases hst with h | ⟨g, o, h, hc⟩
    · cases h
    · exact ⟨g, o, h, by have := hc 0 (by show (0 : Nat) < 1; omega); simpa [sel, wY] using this⟩
  have hgl := World.block_lt_of_cell? w5 _ hc5
  have HCL := Lib.hid hcl; have HN := Lib.hid (And.intro hc5 (And.intro hgl x3))
  clear hb5 x1 x2 x3 hn hst hc5 hgl hcl
  go_wp2_with (fail)
  refine HCL.out.mono ?_
  rintro e w6 ⟨rfl, hb6⟩
  have c5 := (hb6.cell (p := ⟨g5, o5, none⟩) HN.out.2.1).trans HN.out.1
  have cl := Nat.lt_of_lt_of_le HN.out.2.1 hb6.size
  have HB6 := Lib.hid (HN.out.2.2.trans (hb6.mono HN.out.2.2.size))
  clear hb6 b0 b1 b2 b3 b4 b5 b6 b7 f0 f1 f2 f3 f4 f5 f6 f7 bl
  go_wp2_with (fail)
  go_ret
  exact ⟨rfl, HB6.out⟩
end Scope
end Go.Proofs.YtkcadkjpneoobaaDoor
