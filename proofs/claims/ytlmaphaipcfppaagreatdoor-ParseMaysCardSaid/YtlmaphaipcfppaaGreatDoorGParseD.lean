/-The program's reading of tokens: terms are made. The program's reading of tokens: leaves. -/
import Derived.Test.YtlmaphaipcfppaaGreatDoorGParseC
import Derived.Test.YtlmaphaipcfppaaGreatDoorParsePut
import Derived.Test.YtlmaphaipcfppaaGreatDoorWordsNum
namespace Go.Proofs.YtlmaphaipcfppaaGreatDoor
open Go.RowKit
set_option linter.unusedVariables false
namespace Parse
open Token (Tok tel ToksAt)
open Term (Tm Hd TmIs Kids ret_bool ret_i64 Reads veil Flat tcells)
open Words (str_no str_yes)
open Chars (isin BytesAt)

/-- A term, by value. -/
def tmV (h : Hd) (p : Option Addr) (l d : Nat) : Value := .agg #[.int .u8 h.k, .int .u8 h.op, .int .i64 h.pl, .int .i64 h.n, .string h.name, .string h.arg, .string h.exn, .slice p l d]
set_option maxRecDepth 10000 in
set_option maxHeartbeats 3200000 in
theorem node_walk (w : World) (k op a nn : Int) (nm ar ex : ByteArray) (p : Option Addr) (l d : Nat) :
    Calls Tryz.prog 68 #[headV k op a nn nm ar ex, .slice p l d] w fun e w' => e = .returned (.agg #[.int .u8 k, .int .u8 op, .int .i64 a, .int .i64 nn, .string nm, .string ar, .string ex, .slice p l d]) ∧ Below w.heap.size w w' := by
  unfold headV
  have hbox : ∀ O O' : Obj, Below w.heap.size w ((w.alloc O).alloc O') := fun O O' => ((Below.refl _ _).alloc (Nat.le_refl _) O).alloc (by simp) O'
  have hbox1 : ∀ O : Obj, Below w.heap.size w (w.alloc O) := fun O => ((Below.refl _ _).alloc (Nat.le_refl _) O)
  have HBOX := Lib.hid hbox; have HBOX1 := Lib.hid hbox1
  clear hbox hbox1
  go_enter Tryz.func68, Tryz.ntmps68
  go_wp2_with (fail)
  refine bodyPost_ret (v := .agg #[.int .u8 k, .int .u8 op, .int .i64 a, .int .i64 nn, .string nm, .string ar, .string ex, .slice p l d]) (by simp [results, Tryz.results68, go_sem]) rfl ⟨rfl, ?_⟩
  exact HBOX.out _ _

/-- A sign's head. -/
theorem signHead_walk (w : World) (x : ByteArray) (hx : x ∈ [wPut, wLess, wIs, wAdd, wSub, wMul]) :
    Calls Tryz.prog 98 #[.string x] w fun e w' => e = .returned (headV (opK x) (opO x) 0 0 ⟨#[]⟩ ⟨#[]⟩ ⟨#[]⟩) ∧ Below w.heap.size w w' := by
  have hbox1 : ∀ O : Obj, Below w.heap.size w (w.alloc O) := fun O => ((Below.refl _ _).alloc (Nat.le_refl _) O)
  have HBOX1 := Lib.hid hbox1
  clear hbox1
  unfold headV
  have k1 : opK wPut = 8 ∧ opO wPut = 0 ∧ opK wLess = 9 ∧ opO wLess = 4 ∧ opK wIs = 9 ∧ opO wIs = 5 ∧ opK wAdd = 9 ∧ opO wAdd = 1 ∧ opK wSub = 9 ∧ opO wSub = 2 ∧ opK wMul = 9 ∧ opO wMul = 3 := by decide +kernel
  obtain ⟨k1, k2, k3, k4, k5, k6, k7, k8, k9, k10, k11, k12⟩ := k1
  simp only [List.mem_cons, List.not_mem_nil, or_false] at hx
  rcases hx with rfl | rfl | rfl | rfl | rfl | rfl
  · rw [k1, k2]
    clear k1 k2 k3 k4 k5 k6 k7 k8 k9 k10 k11 k12
    have e1 : (wPut.toList == [43]) = false := by rw [tlPut]; decide
    have e2 : (wPut.toList == [45]) = false := by rw [tlPut]; decide
    have e3 : (wPut.toList == [42]) = false := by rw [tlPut]; decide
    have e4 : (wPut.toList == [60]) = false := by rw [tlPut]; decide
    have e5 : (wPut.toList == [61]) = false := by rw [tlPut]; decide
    go_enter Tryz.func98, Tryz.ntmps98
    go_wp2_with (fail)
    refine bodyPost_ret (v := .agg #[.int .u8 8, .int .u8 0, .int .i64 0, .int .i64 0, .string ⟨#[]⟩, .string ⟨#[]⟩, .string ⟨#[]⟩]) (by simp [results, Tryz.results98, go_sem]) rfl ⟨rfl, HBOX1.out _⟩
  · rw [k3, k4]
    clear k1 k2 k3 k4 k5 k6 k7 k8 k9 k10 k11 k12
    have e1 : (wLess.toList == [43]) = false := by rw [tlLess]; decide
    have e2 : (wLess.toList == [45]) = false := by rw [tlLess]; decide
    have e3 : (wLess.toList == [42]) = false := by rw [tlLess]; decide
    have e4 : (wLess.toList == [60]) = true := by rw [tlLess]; decide
    go_enter Tryz.func98, Tryz.ntmps98
    go_wp2_with (fail)
    refine bodyPost_ret (v := .agg #[.int .u8 9, .int .u8 4, .int .i64 0, .int .i64 0, .string ⟨#[]⟩, .string ⟨#[]⟩, .string ⟨#[]⟩]) (by simp [results, Tryz.results98, go_sem]) rfl ⟨rfl, HBOX1.out _⟩
  · rw [k5, k6]
    clear k1 k2 k3 k4 k5 k6 k7 k8 k9 k10 k11 k12
    have e1 : (wIs.toList == [43]) = false := by rw [tlIs]; decide
    have e2 : (wIs.toList == [45]) = false := by rw [tlIs]; decide
    have e3 : (wIs.toList == [42]) = false := by rw [tlIs]; decide
    have e4 : (wIs.toList == [60]) = false := by rw [tlIs]; decide
    have e5 : (wIs.toList == [61]) = true := by rw [tlIs]; decide
    go_enter Tryz.func98, Tryz.ntmps98
    go_wp2_with (fail)
    refine bodyPost_ret (v := .agg #[.int .u8 9, .int .u8 5, .int .i64 0, .int .i64 0, .string ⟨#[]⟩, .string ⟨#[]⟩, .string ⟨#[]⟩]) (by simp [results, Tryz.results98, go_sem]) rfl ⟨rfl, HBOX1.out _⟩
  · rw [k7, k8]
    clear k1 k2 k3 k4 k5 k6 k7 k8 k9 k10 k11 k12
    have e1 : (wAdd.toList == [43]) = true := by rw [tlAdd]; decide
    go_enter Tryz.func98, Tryz.ntmps98
    go_wp2_with (fail)
    refine bodyPost_ret (v := .agg #[.int .u8 9, .int .u8 1, .int .i64 0, .int .i64 0, .string ⟨#[]⟩, .string ⟨#[]⟩, .string ⟨#[]⟩]) (by simp [results, Tryz.results98, go_sem]) rfl ⟨rfl, HBOX1.out _⟩
  · rw [k9, k10]
    clear k1 k2 k3 k4 k5 k6 k7 k8 k9 k10 k11 k12
    have e1 : (wSub.toList == [43]) = false := by rw [tlSub]; decide
    have e2 : (wSub.toList == [45]) = true := by rw [tlSub]; decide
    go_enter Tryz.func98, Tryz.ntmps98
    go_wp2_with (fail)
    refine bodyPost_ret (v := .agg #[.int .u8 9, .int .u8 2, .int .i64 0, .int .i64 0, .string ⟨#[]⟩, .string ⟨#[]⟩, .string ⟨#[]⟩]) (by simp [results, Tryz.results98, go_sem]) rfl ⟨rfl, HBOX1.out _⟩
  · rw [k11, k12]
    clear k1 k2 k3 k4 k5 k6 k7 k8 k9 k10 k11 k12
    have e1 : (wMul.toList == [43]) = false := by rw [tlMul]; decide
    have e2 : (wMul.toList == [45]) = false := by rw [tlMul]; decide
    have e3 : (wMul.toList == [42]) = true := by rw [tlMul]; decide
    go_enter Tryz.func98, Tryz.ntmps98
    go_wp2_with (fail)
    refine bodyPost_ret (v := .agg #[.int .u8 9, .int .u8 3, .int .i64 0, .int .i64 0, .string ⟨#[]⟩, .string ⟨#[]⟩, .string ⟨#[]⟩]) (by simp [results, Tryz.results98, go_sem]) rfl ⟨rfl, HBOX1.out _⟩

/-- What was laid from block B on. -/
def fresh (B : Nat) (w : World) : World := veil (fun i => decide (B ≤ i)) w
theorem fresh_step {B B1 : Nat} {w W : World} (hB : B ≤ B1) (h : ∀ k, B1 ≤ k → k < w.heap.size → W.heap[k]? = w.heap[k]?) : Reads (fresh B1 w) (fresh B W) :=
  Term.veil_to fun b hb hp => by
    have hp := of_decide_eq_true hp
    exact ⟨decide_eq_true (by omega), h b hp hb⟩
theorem fresh_off {B B1 P : Nat} {w W : World} (hB : B ≤ B1) (hP : P < B1) (ho : Off P w W) : Reads (fresh B1 w) (fresh B W) := fresh_step hB fun k h1 h2 => ho.block k h2 (by omega)
/-- Behind the writing of a box that was laid ahead of the term. -/
theorem fresh_box {B B1 N : Nat} {w W : World} (hB : B ≤ B1) (hN : N < B1) (h : ∀ k, k ≠ N → k < w.heap.size → W.heap[k]? = w.heap[k]?) : Reads (fresh B1 w) (fresh B W) := fresh_step hB fun k h1 h2 => h k (by omega) h2
theorem set8_other (W : World) (N : Nat) (a b c d e f g h : Value) (k : Nat) (hk : k ≠ N) : ((((((((W.setCell ⟨N, 0, none⟩ a).setCell ⟨N, 1, none⟩ b).setCell ⟨N, 2, none⟩ c).setCell ⟨N, 3, none⟩ d).setCell ⟨N, 4, none⟩ e).setCell ⟨N, 5, none⟩ f).setCell ⟨N, 6, none⟩ g).setCell ⟨N, 7, none⟩ h).heap[k]? = W.heap[k]? := by
  rw [Below.heap_setCell _ _ _ _ hk, Below.heap_setCell _ _ _ _ hk, Below.heap_setCell _ _ _ _ hk, Below.heap_setCell _ _ _ _ hk, Below.heap_setCell _ _ _ _ hk, Below.heap_setCell _ _ _ _ hk, Below.heap_setCell _ _ _ _ hk, Below.heap_setCell _ _ _ _ hk]
theorem set8_size (W : World) (N : Nat) (a b c d e f g h : Value) : ((((((((W.setCell ⟨N, 0, none⟩ a).setCell ⟨N, 1, none⟩ b).setCell ⟨N, 2, none⟩ c).setCell ⟨N, 3, none⟩ d).setCell ⟨N, 4, none⟩ e).setCell ⟨N, 5, none⟩ f).setCell ⟨N, 6, none⟩ g).setCell ⟨N, 7, none⟩ h).heap.size = W.heap.size := by
  simp [World.setCell]
/-- A row of terms in a block just laid, and the term that has them. -/
theorem tm_row {W : World} {V : Nat → Bool} {b : Nat} {xs : List Value} {ts : List Tm} {ty : TypeId} {h : Hd} (hb : V b = true) (hc : W.heap[b]? = some (.cells xs.toArray ty (0, 0))) (hf : Flat (veil V W) xs ts) (hd : Term.HdOk h) (hl : ts.length ≤ maxLen) :
    TmIs (veil V W) h (some ⟨b, 0, none⟩) ts.length ts.length (.node h ts) := by
  refine ⟨rfl, rfl, hd, ⟨Nat.le_refl _, hl⟩, Term.kids_of_flat (xs := xs) (fun j u hu => ?_) hf⟩
  rw [World.cell?_of_block (w := W) (Term.veil_at hb)]
  simp [World.cell?, hc, hu]
/-- What is seen stays, where only newer blocks are written. -/
theorem veil_below {V : Nat → Bool} {w W : World} (hb : Below w.heap.size w W) : Reads (veil V w) (veil V W) := Term.veil_to fun k hk hp => ⟨hp, hb.block k hk⟩
theorem small0 : (-9223372036854775808 : Int) ≤ 0 ∧ (0 : Int) ≤ 9223372036854775807 := by omega
theorem hd_join {k op pl : Int} (hk : 0 ≤ k ∧ k ≤ 255) (ho : 0 ≤ op ∧ op ≤ 255) (hp : -9223372036854775808 ≤ pl ∧ pl ≤ 9223372036854775807) : Term.HdOk ⟨k, op, pl, 0, ⟨#[]⟩, ⟨#[]⟩, ⟨#[]⟩⟩ :=
  ⟨hk, ho, hp, small0, by unfold maxLen; show (0 : Nat) ≤ _; omega, by unfold maxLen; show (0 : Nat) ≤ _; omega, by unfold maxLen; show (0 : Nat) ≤ _; omega⟩
/-- How joined ends. -/
def JoinEnd (V : Nat → Bool) (k op : Int) (t u : Tm) (w : World) (e : Ending) (w' : World) : Prop :=
  ∃ q, e = .returned (.agg #[.int .u8 k, .int .u8 op, .int .i64 t.h.pl, .int .i64 0, .string ⟨#[]⟩, .string ⟨#[]⟩, .string ⟨#[]⟩, .slice q 2 2]) ∧
    TmIs (veil V w') ⟨k, op, t.h.pl, 0, ⟨#[]⟩, ⟨#[]⟩, ⟨#[]⟩⟩ q 2 2 (.node ⟨k, op, t.h.pl, 0, ⟨#[]⟩, ⟨#[]⟩, ⟨#[]⟩⟩ [t, u]) ∧ Below w.heap.size w w'
theorem join_fin {V : Nat → Bool} {k op k1 op1 a1 n1 k2 op2 a2 n2 : Int} {nm1 ar1 ex1 nm2 ar2 ex2 : ByteArray} {p1 p2 : Option Addr} {l1 d1 l2 d2 : Nat} {t u : Tm} {w W : World} {N : Nat} {ty : TypeId} (hB : ∀ b, w.heap.size ≤ b → V b = true)
    (hT : TmIs (veil V w) ⟨k1, op1, a1, n1, nm1, ar1, ex1⟩ p1 l1 d1 t) (hU : TmIs (veil V w) ⟨k2, op2, a2, n2, nm2, ar2, ex2⟩ p2 l2 d2 u) (hk : 0 ≤ k ∧ k ≤ 255) (ho : 0 ≤ op ∧ op ≤ 255) (hN : w.heap.size ≤ N)
    (hb : Below w.heap.size w W) (hW : W.heap[N]? = some (.cells #[.int .u8 k1, .int .u8 op1, .int .i64 a1, .int .i64 n1, .string nm1, .string ar1, .string ex1, .slice p1 l1 d1, .int .u8 k2, .int .u8 op2, .int .i64 a2, .int .i64 n2, .string nm2, .string ar2, .string ex2, .slice p2 l2 d2] ty (0, 0))) :
    JoinEnd V k op t u w (.returned (.agg #[.int .u8 k, .int .u8 op, .int .i64 a1, .int .i64 0, .string ⟨#[]⟩, .string ⟨#[]⟩, .string ⟨#[]⟩, .slice (some ⟨N, 0, none⟩) 2 2])) W := by
  have hpl : t.h.pl = a1 := by rw [hT.head]
  refine ⟨_, by rw [hpl], ?_, hb⟩
  rw [hpl]
  exact tm_row (xs := tcells ⟨k1, op1, a1, n1, nm1, ar1, ex1⟩ p1 l1 d1 ++ tcells ⟨k2, op2, a2, n2, nm2, ar2, ex2⟩ p2 l2 d2) (ts := [t, u]) (hB _ hN) hW (((Flat.one hT).append (Flat.one hU)).reads (veil_below hb)) (hd_join hk ho hT.ok.pl) (by unfold maxLen; show (2 : Nat) ≤ _; omega)
theorem five (w : World) (A B C D E : Obj) {W : World} (hb : Below (((((w.alloc A).alloc B).alloc C).alloc D).alloc E).heap.size (((((w.alloc A).alloc B).alloc C).alloc D).alloc E) W) : W.heap[w.heap.size + 3]? = some D ∧ W.heap[w.heap.size + 4]? = some E ∧ Below w.heap.size w W := by
  have s1 : (w.alloc A).heap.size = w.heap.size + 1 := by simp
  have s2 : ((w.alloc A).alloc B).heap.size = w.heap.size + 2 := by simp
  have s3 : (((w.alloc A).alloc B).alloc C).heap.size = w.heap.size + 3 := by simp
  have s4 : ((((w.alloc A).alloc B).alloc C).alloc D).heap.size = w.heap.size + 4 := by simp
  have s5 : (((((w.alloc A).alloc B).alloc C).alloc D).alloc E).heap.size = w.heap.size + 5 := by simp
  have h0 : Below w.heap.size w (((((w.alloc A).alloc B).alloc C).alloc D).alloc E) := (((((Below.refl _ _).alloc (Nat.le_refl _) _).alloc (by omega) _).alloc (by omega) _).alloc (by omega) _).alloc (by omega) _
  refine ⟨?_, ?_, h0.trans (hb.mono h0.size)⟩
  · rw [hb.block _ (by omega), Below.heap_alloc _ _ _ (by omega), ← s3]; exact heap_alloc_new _ D
  · rw [hb.block _ (by omega), ← s4]; exact heap_alloc_new _ E
set_option maxRecDepth 10000 in
set_option maxHeartbeats 6400000 in
theorem joined_walk (w : World) (V : Nat → Bool) (t u : Tm) (k op a k1 op1 a1 n1 k2 op2 a2 n2 : Int) (nm1 ar1 ex1 nm2 ar2 ex2 : ByteArray) (p1 p2 : Option Addr) (l1 d1 l2 d2 : Nat) (hB : ∀ b, w.heap.size ≤ b → V b = true)
    (hT : TmIs (veil V w) ⟨k1, op1, a1, n1, nm1, ar1, ex1⟩ p1 l1 d1 t) (hU : TmIs (veil V w) ⟨k2, op2, a2, n2, nm2, ar2, ex2⟩ p2 l2 d2 u) (hk : 0 ≤ k ∧ k ≤ 255) (ho : 0 ≤ op ∧ op ≤ 255) :
    Calls Tryz.prog 99 #[headV k op a 0 ⟨#[]⟩ ⟨#[]⟩ ⟨#[]⟩, .agg #[.int .u8 k1, .int .u8 op1, .int .i64 a1, .int .i64 n1, .string nm1, .string ar1, .string ex1, .slice p1 l1 d1], .agg #[.int .u8 k2, .int .u8 op2, .int .i64 a2, .int .i64 n2, .string nm2, .string ar2, .string ex2, .slice p2 l2 d2]] w (JoinEnd V k op t u w) := by
  have hfin := fun (W : World) ty hb hW => join_fin (W := W) (N := w.heap.size + 4) (ty := ty) hB hT hU hk ho (by omega) hb hW
  have hn := fun W => node_walk W k op a1 0 ⟨#[]⟩ ⟨#[]⟩ ⟨#[]⟩ (some ⟨w.heap.size + 4, 0, none⟩) 2 2
  have HN := Lib.hid hn; have HFIN := Lib.hid hfin
  unfold headV at HN ⊢
  clear hT hU hfin hn hB
  go_enter Tryz.func99, Tryz.ntmps99
  go_wp2_with (fail)
  refine (HN.out _).mono ?_
  rintro e w1 ⟨rfl, hb1⟩
  obtain ⟨h3, h4, h5⟩ := five w _ _ _ _ _ hb1
  have rl := lt_of_block h3
  obtain ⟨⟨r0, r1, r2, r3, r4, r5, r6, r7⟩, f0, f1, f2, f3, f4, f5, f6, f7⟩ := cells8' (N := w.heap.size + 1 + 1 + 1) h3
  have HB := Lib.hid h5; have H4 := Lib.hid h4
  clear hb1 h3 h4 h5
  go_wp2_with (fail)
  refine bodyPost_ret (v := .agg #[.int .u8 k, .int .u8 op, .int .i64 a1, .int .i64 0, .string ⟨#[]⟩, .string ⟨#[]⟩, .string ⟨#[]⟩, .slice (some ⟨w.heap.size + 4, 0, none⟩) 2 2]) (by simp [results, Tryz.results99, go_sem, r0, r1, r2, r3, r4, r5, r6, r7]) rfl (HFIN.out _ 29 (HB.out.trans (Below.set8 w _ _ (by omega) _ _ _ _ _ _ _ _)) ?_)
  rw [Below.heap_setCell _ _ _ _ (by show _ ≠ w.heap.size + 1 + 1 + 1; omega), Below.heap_setCell _ _ _ _ (by show _ ≠ w.heap.size + 1 + 1 + 1; omega), Below.heap_setCell _ _ _ _ (by show _ ≠ w.heap.size + 1 + 1 + 1; omega), Below.heap_setCell _ _ _ _ (by show _ ≠ w.heap.size + 1 + 1 + 1; omega), Below.heap_setCell _ _ _ _ (by show _ ≠ w.heap.size + 1 + 1 + 1; omega), Below.heap_setCell _ _ _ _ (by show _ ≠ w.heap.size + 1 + 1 + 1; omega), Below.heap_setCell _ _ _ _ (by show _ ≠ w.heap.size + 1 + 1 + 1; omega), Below.heap_setCell _ _ _ _ (by show _ ≠ w.heap.size + 1 + 1 + 1; omega)]
  exact H4.out

/-- How a part ends: at a place of the row, with a term laid from block B on; or a token is thrown. -/
def PartB (B P g n c : Nat) (ts : List Tok) (r : St × Tm) (w : World) (e : Ending) (w' : World) : Prop :=
  (r.1.bad = false ∧ (∃ h p l d, e = .returned (.agg #[.int .u8 h.k, .int .u8 h.op, .int .i64 h.pl, .int .i64 h.n, .string h.name, .string h.arg, .string h.exn, .slice p l d]) ∧ TmIs (fresh B w') h p l d r.2) ∧ Off P w w' ∧ PR w' P g n c r.1.i ts) ∨
  (r.1.bad = true ∧ e = thrown (tel ts r.1.i) ∧ Off P w w')
def PartEnd (P g n c : Nat) (ts : List Tok) (r : St × Tm) (w : World) (e : Ending) (w' : World) : Prop := PartB w.heap.size P g n c ts r w e w'
/-- A leaf, as the document says it. -/
def leafF (ts : List Tok) (i : Nat) : St × Tm :=
  if (tel ts i).k = 1 then (⟨i + 1, false⟩, .node ⟨1, 0, plA ts i, Words.numV (tel ts i).s.data.toList, ⟨#[]⟩, ⟨#[]⟩, ⟨#[]⟩⟩ []) else if (tel ts i).k = 2 then (⟨i + 1, false⟩, .node ⟨2, 0, plA ts i, 0, (tel ts i).s, ⟨#[]⟩, ⟨#[]⟩⟩ []) else (⟨i, true⟩, zeroT)
theorem below8 {w w1 w2 : World} (h : Below w.heap.size w w1) (k : Below w1.heap.size w1 w2) : Below w.heap.size w w2 := h.trans (k.mono h.size)
end Parse
end Go.Proofs.YtlmaphaipcfppaaGreatDoor
namespace Go.Proofs.YtlmaphaipcfppaaGreatDoor
open Go.RowKit
set_option linter.unusedVariables false
namespace Parse
open Token (Tok tel ToksAt)
open Term (Tm Hd TmIs Kids ret_bool ret_i64 Reads veil Flat tcells)
open Words (str_no str_yes)
open Chars (isin BytesAt)

theorem var_off {w W : World} {P g : Nat} {nm : String} {cs : Array Value} (hg : Tryz.prog.globalNamed nm = some g) (h : w.var? Tryz.prog nm = some cs) (ho : Off P w W) (hne : g ≠ P) : W.var? Tryz.prog nm = some cs := by
  unfold World.var? at h ⊢
  rw [hg] at h ⊢
  simp only [Option.bind_some] at h ⊢
  have hlt : g < w.heap.size := by
    rcases Nat.lt_or_ge g w.heap.size with h1 | h1
    · exact h1
    · rw [Array.getElem?_eq_none h1] at h; simp at h
  rw [ho.block g hlt hne]
  exact h
/-- The tables of numbers, which the parser's variable isn't. -/
def Lay (w : World) (P : Nat) : Prop := Words.NumLaid w ∧ 4 ≠ P ∧ 3 ≠ P
theorem Lay.off {w W : World} {P : Nat} (h : Lay w P) (ho : Off P w W) : Lay W P := by
  obtain ⟨⟨h1, tp, p, h2⟩, h3, h4⟩ := h
  exact ⟨⟨var_off Words.gPow h1 ho h3, tp, p, var_off Words.gRange h2 ho h4⟩, h3, h4⟩

theorem Lay.below {w W : World} {P : Nat} (h : Lay w P) (hb : Below w.heap.size w W) : Lay W P := h.off (Off.of_below hb)
theorem box_off2 {P : Nat} {w W : World} {O O' : Obj} (h : Off P ((w.alloc O).alloc O') W) (hP : P < w.heap.size) : W.heap[w.heap.size]? = some O ∧ Off P w W := by
  have s1 : (w.alloc O).heap.size = w.heap.size + 1 := by simp
  have h1 : Off P (w.alloc O) W := ((Off.refl P _).alloc O').trans h
  exact box_off h1 hP
theorem numV_small (l : List UInt8) : -9223372036854775808 ≤ Words.numV l ∧ Words.numV l ≤ 9223372036854775807 := by
  unfold Words.numV
  split
  · rename_i h
    unfold Words.numB at h
    simp only [Bool.and_eq_true, decide_eq_true_eq] at h
    have := h.2
    omega
  · omega
theorem tm_leaf {w : World} {k pl nn : Int} {nm : ByteArray} (hk : 0 ≤ k ∧ k ≤ 255) (hp : -9223372036854775808 ≤ pl ∧ pl ≤ 9223372036854775807) (hn : -9223372036854775808 ≤ nn ∧ nn ≤ 9223372036854775807) (hm : nm.size ≤ maxLen) :
    TmIs w ⟨k, 0, pl, nn, nm, ⟨#[]⟩, ⟨#[]⟩⟩ none 0 0 (.node ⟨k, 0, pl, nn, nm, ⟨#[]⟩, ⟨#[]⟩⟩ []) :=
  ⟨rfl, rfl, ⟨hk, ⟨Int.le_refl _, by show (0 : Int) ≤ 255; omega⟩, hp, hn, hm, by unfold maxLen; show (0 : Nat) ≤ _; omega, by unfold maxLen; show (0 : Nat) ≤ _; omega⟩, ⟨Nat.le_refl _, by unfold maxLen; omega⟩, .nokids none⟩
theorem PR.pl {w : World} {P g n c i : Nat} {ts : List Tok} (h : PR w P g n c i ts) : -9223372036854775808 ≤ plA ts i ∧ plA ts i ≤ 9223372036854775807 := by
  have := h.row.places i h.lt
  unfold plA
  omega
theorem leaf_fin {P g n c i : Nat} {ts : List Tok} {w w1 W : World} {k nn : Int} {nm : ByteArray} {b : St × Tm} (h : PR w P g n c i ts) (hb : b = (⟨i + 1, false⟩, .node ⟨k, 0, plA ts i, nn, nm, ⟨#[]⟩, ⟨#[]⟩⟩ [])) (hk : 0 ≤ k ∧ k ≤ 255) (hn : -9223372036854775808 ≤ nn ∧ nn ≤ 9223372036854775807) (hm : nm.size ≤ maxLen)
    (ho : Off P w w1) (hp : PR w1 P g n c (i + 1) ts) (hB : Below w.heap.size w1 W) :
    PartEnd P g n c ts b w (.returned (.agg #[.int .u8 k, .int .u8 0, .int .i64 (tel ts i).a, .int .i64 nn, .string nm, .string ⟨#[]⟩, .string ⟨#[]⟩, .slice none 0 0])) W := by
  subst hb
  exact .inl ⟨rfl, ⟨⟨k, 0, plA ts i, nn, nm, ⟨#[]⟩, ⟨#[]⟩⟩, none, 0, 0, rfl, tm_leaf hk h.pl hn hm⟩, ho.then hB, hp.keep hB h.old.1 h.old.2⟩
set_option maxRecDepth 10000 in
set_option maxHeartbeats 6400000 in
theorem leaf_walk (w : World) (P g n c i : Nat) (ts : List Tok) (h : PR w P g n c i ts) (hL : Lay w P) :
    Calls Tryz.prog 127 #[.pointer (some ⟨P, 0, none⟩)] w (PartEnd P g n c ts (leafF ts i) w) := by
  have hbox : ∀ O O' : Obj, Below w.heap.size w ((w.alloc O).alloc O') := fun O O' => ((Below.refl _ _).alloc (Nat.le_refl _) O).alloc (by simp) O'
  have hon := fun t O => (one_walk ((w.alloc O).alloc (.cells #[.int .u8 1, .int .u8 2] t)) P g n c i ts (some ⟨w.heap.size + 1, 0, none⟩) 2 2 [1, 2] (h.below (hbox O _)) rfl (by unfold maxLen; omega) (fun W hb => by
    have hx := bytes_alloc (w.alloc O) t [1, 2]
    rw [show (w.alloc O).heap.size = w.heap.size + 1 from by simp] at hx
    rcases hx with hh | ⟨b, o, e, hc⟩
    · cases hh
    · exact .inr ⟨b, o, e, fun j hj => (hb.cell (p := ⟨b, o + j, none⟩) (World.block_lt_of_cell? _ _ (hc j hj))).trans (hc j hj)⟩) (by decide))
  have HON := Lib.hid hon
  unfold OneEnd tokV thrown strayV at HON
  have hf := fieldTok0
  have hold := h.old
  have htx := h.row.texts i h.lt
  have hleaf : leafF ts i = if (tel ts i).k = 1 then (⟨i + 1, false⟩, .node ⟨1, 0, plA ts i, Words.numV (tel ts i).s.data.toList, ⟨#[]⟩, ⟨#[]⟩, ⟨#[]⟩⟩ []) else if (tel ts i).k = 2 then (⟨i + 1, false⟩, .node ⟨2, 0, plA ts i, 0, (tel ts i).s, ⟨#[]⟩, ⟨#[]⟩⟩ []) else (⟨i, true⟩, zeroT) := rfl
  generalize leafF ts i = lf at *
  have HP := Lib.hid h; have HL := Lib.hid hL; have HOLD := Lib.hid hold; have HTX := Lib.hid htx; have HLF := Lib.hid hleaf
  clear hon h hL hbox hold htx hleaf
  go_enter Tryz.func127, Tryz.ntmps127
  go_wp2_with (fail)
  refine (HON.out _ _).mono ?_
  rintro e w1 (⟨hk, rfl, ho, hp⟩ | ⟨hk, rfl, ho⟩)
  · obtain ⟨h3, h4⟩ := box_off2 ho HOLD.out.1
    have HO := Lib.hid h4; have HPR := Lib.hid hp
    have rl := lt_of_block h3
    by_cases h1 : (tel ts i).k = 1
    · have n1 : ((tel ts i).k == 2) = false := by rw [h1]; rfl
      have hx := HLF.out
      rw [if_pos h1] at hx
      have hnum := fun W (hb : Below w1.heap.size w1 W) => Words.number_walk (tel ts i).s W (by have := HTX.out; omega) ((HL.out.off HO.out).below hb).1
      have hbx : ∀ O : Obj, Below w1.heap.size w1 (w1.alloc O) := fun O => (Below.refl _ _).alloc (Nat.le_refl _) O
      have H3 := Lib.hid h3; have HX := Lib.hid hx; have HNUM := Lib.hid hnum; have HBX := Lib.hid hbx
      unfold Words.NumEnd at HNUM
      clear ho hp hk h1 h3 h4 hx hnum hbx
      go_wp2_with (fail)
      refine (HNUM.out _ (HBX.out _)).mono ?_
      rintro e w2 ⟨rfl, hb2⟩
      obtain ⟨t3, hb3⟩ := one_box hb2
      obtain ⟨⟨t0, t1, t2⟩, g0, g1, g2⟩ := cells3 t3
      have HB3 := Lib.hid hb3
      have tl := lt_of_block t3
      clear hb2 t3 hb3
      go_wp2_with (fail)
      refine (node_walk w2 1 0 (tel ts i).a (Words.numV (tel ts i).s.data.toList) ⟨#[]⟩ ⟨#[]⟩ ⟨#[]⟩ none 0 0).mono ?_
      rintro e w3 ⟨rfl, hb4⟩
      have hr : w3.heap[w.heap.size]? = _ := ((HB3.out.trans (hb4.mono HB3.out.size)).block _ rl).trans H3.out
      obtain ⟨⟨r0, r1, r2, r3, r4, r5, r6, r7⟩, f0, f1, f2, f3, f4, f5, f6, f7⟩ := cells8' hr
      have rl3 := lt_of_block hr
      have HB4 := Lib.hid (HB3.out.trans (hb4.mono HB3.out.size))
      clear hb4 hr
      go_wp2_with (fail)
      refine bodyPost_ret (v := .agg #[.int .u8 1, .int .u8 0, .int .i64 (tel ts i).a, .int .i64 (Words.numV (tel ts i).s.data.toList), .string ⟨#[]⟩, .string ⟨#[]⟩, .string ⟨#[]⟩, .slice none 0 0]) (by simp [results, Tryz.results127, go_sem, r0, r1, r2, r3, r4, r5, r6, r7]) rfl (leaf_fin HP.out HX.out (by omega) (numV_small _) (by unfold maxLen; show (0 : Nat) ≤ _; omega) HO.out HPR.out ((HB4.out.mono HO.out.size).trans (Below.set8 w _ _ (Nat.le_refl _) _ _ _ _ _ _ _ _)))
    · have h2 : (tel ts i).k = 2 := by unfold isin at hk; simpa [h1] using hk
      have n1 : ((tel ts i).k == 2) = true := by rw [h2]; rfl
      have hx := HLF.out
      rw [if_neg h1, if_pos h2] at hx
      have hbx : ∀ O : Obj, Below w1.heap.size w1 (w1.alloc O) := fun O => (Below.refl _ _).alloc (Nat.le_refl _) O
      have H3 := Lib.hid h3; have HX := Lib.hid hx; have HBX := Lib.hid hbx
      clear ho hp hk h1 h2 h3 h4 hx hbx
      go_wp2_with (fail)
      refine (node_walk _ 2 0 (tel ts i).a 0 (tel ts i).s ⟨#[]⟩ ⟨#[]⟩ none 0 0).mono ?_
      rintro e w3 ⟨rfl, hb4⟩
      obtain ⟨_, hb5⟩ := one_box hb4
      have hr : w3.heap[w.heap.size]? = _ := (hb5.block _ rl).trans H3.out
      obtain ⟨⟨r0, r1, r2, r3, r4, r5, r6, r7⟩, f0, f1, f2, f3, f4, f5, f6, f7⟩ := cells8' hr
      have rl3 := lt_of_block hr
      have HB4 := Lib.hid hb5
      clear hb4 hr hb5
      go_wp2_with (fail)
      refine bodyPost_ret (v := .agg #[.int .u8 2, .int .u8 0, .int .i64 (tel ts i).a, .int .i64 0, .string (tel ts i).s, .string ⟨#[]⟩, .string ⟨#[]⟩, .slice none 0 0]) (by simp [results, Tryz.results127, go_sem, r0, r1, r2, r3, r4, r5, r6, r7]) rfl (leaf_fin HP.out HX.out (by omega) small0 (by have := HTX.out; unfold maxLen; omega) HO.out HPR.out ((HB4.out.mono HO.out.size).trans (Below.set8 w _ _ (Nat.le_refl _) _ _ _ _ _ _ _ _)))
  · have h1 : (tel ts i).k ≠ 1 := fun e => by rw [e] at hk; revert hk; decide
    have h2 : (tel ts i).k ≠ 2 := fun e => by rw [e] at hk; revert hk; decide
    have hx := HLF.out
    rw [if_neg h1, if_neg h2] at hx
    obtain ⟨h3, h4⟩ := box_off2 ho HOLD.out.1
    have HO := Lib.hid h4; have HX := Lib.hid hx
    clear h1 h2 hx h3 h4 ho
    go_wp2_with (fail)
    exact ⟨rfl, .inr ⟨by rw [HX.out], by rw [HX.out]; rfl, HO.out⟩⟩
end Parse
end Go.Proofs.YtlmaphaipcfppaaGreatDoor
