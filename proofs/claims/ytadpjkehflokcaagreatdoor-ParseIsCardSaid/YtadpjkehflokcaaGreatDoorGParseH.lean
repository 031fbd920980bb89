/-Storing a term into a box, as one step. The program's reading of a text: what was thrown is caught. The program's reading of a text: terms. The program's Term. -/
import Derived.Test.YtadpjkehflokcaaGreatDoorGParseC
import Derived.Test.YtadpjkehflokcaaGreatDoorGParseI
import Derived.Defers
import Derived.Recover
import Derived.Test.YtadpjkehflokcaaGreatDoorGTokA
import Derived.Test.YtadpjkehflokcaaGreatDoorGParseA
import Derived.Deep.RegionHeld3
namespace Go.Proofs.YtadpjkehflokcaaGreatDoor
open Go.RowKit
set_option linter.unusedVariables false
set_option linter.unusedSimpArgs false
namespace Parse
theorem wp_store8 (ps : String) (ty : TypeId) (af : Array Edge) (a : Act) (w : World) (K : Act → World → Prop) (Q : Exit → Act → World → Prop) (N : Nat) (x y : Nat) (k op pl nn : Int) (nm ar ex : ByteArray) (p : Option Addr) (l d : Nat) (c0 c1 c2 c3 c4 c5 c6 c7 : Value)
    (hx : a.tmps[x]?.getD undef = .pointer (some ⟨N, 0, none⟩)) (hy : a.tmps[y]?.getD undef = .agg #[.int .u8 k, .int .u8 op, .int .i64 pl, .int .i64 nn, .string nm, .string ar, .string ex, .slice p l d])
    (hc : w.heap[N]? = some (.cells #[c0, c1, c2, c3, c4, c5, c6, c7] 29 (0, 0)))
    (h : K a ((((((((w.setCell ⟨N, 0, none⟩ (.int .u8 k)).setCell ⟨N, 1, none⟩ (.int .u8 op)).setCell ⟨N, 2, none⟩ (.int .i64 pl)).setCell ⟨N, 3, none⟩ (.int .i64 nn)).setCell ⟨N, 4, none⟩ (.string nm)).setCell ⟨N, 5, none⟩ (.string ar)).setCell ⟨N, 6, none⟩ (.string ex)).setCell ⟨N, 7, none⟩ (.slice p l d))) :
    Oper.wp Tryz.prog { dst := none, op := .store 29 (.tmp x) (.tmp y), type := ty, pos := ps, after := af, guard := none } a w K Q := by
  obtain ⟨⟨q0, q1, q2, q3, q4, q5, q6, q7⟩, e0, e1, e2, e3, e4, e5, e6, e7⟩ := cells8' hc
  have ql := lt_of_block hc
  clear hc
  go_simp
  exact h
theorem wp_store1i (ps : String) (ty : TypeId) (af : Array Edge) (a : Act) (w : World) (K : Act → World → Prop) (Q : Exit → Act → World → Prop) (N : Nat) (x y : Nat) (k : Int) (c0 : Value)
    (hx : a.tmps[x]?.getD undef = .pointer (some ⟨N, 0, none⟩)) (hy : a.tmps[y]?.getD undef = .int .i64 k) (hc : w.heap[N]? = some (.cells #[c0] 3 (0, 0))) (h : K a (w.setCell ⟨N, 0, none⟩ (.int .i64 k))) :
    Oper.wp Tryz.prog { dst := none, op := .store 3 (.tmp x) (.tmp y), type := ty, pos := ps, after := af, guard := none } a w K Q := by
  obtain ⟨q0, e0⟩ : w.cell? ⟨N, 0, none⟩ = some c0 ∧ w.frozen? ⟨N, 0, none⟩ = false := by simp [World.cell?, World.frozen?, hc]
  have ql := lt_of_block hc
  clear hc
  go_simp
  exact h
theorem wp_store1e (ps : String) (ty : TypeId) (af : Array Edge) (a : Act) (w : World) (K : Act → World → Prop) (Q : Exit → Act → World → Prop) (N : Nat) (x y : Nat) (k : Int) (c0 : Value)
    (hx : a.tmps[x]?.getD undef = .pointer (some ⟨N, 0, none⟩)) (hy : a.tmps[y]?.getD undef = .int .i64 k) (hc : w.heap[N]? = some (.cells #[c0] 32 (0, 0))) (h : K a (w.setCell ⟨N, 0, none⟩ (.int .i64 k))) :
    Oper.wp Tryz.prog { dst := none, op := .store 32 (.tmp x) (.tmp y), type := ty, pos := ps, after := af, guard := none } a w K Q := by
  obtain ⟨q0, e0⟩ : w.cell? ⟨N, 0, none⟩ = some c0 ∧ w.frozen? ⟨N, 0, none⟩ = false := by simp [World.cell?, World.frozen?, hc]
  have ql := lt_of_block hc
  clear hc
  go_simp
  exact h
theorem wp_store1c (ps : String) (ty : TypeId) (af : Array Edge) (a : Act) (w : World) (K : Act → World → Prop) (Q : Exit → Act → World → Prop) (N : Nat) (x : Nat) (k : Int) (c0 : Value)
    (hx : a.tmps[x]?.getD undef = .pointer (some ⟨N, 0, none⟩)) (hc : w.heap[N]? = some (.cells #[c0] 32 (0, 0))) (h : K a (w.setCell ⟨N, 0, none⟩ (.int .i64 k))) :
    Oper.wp Tryz.prog { dst := none, op := .store 32 (.tmp x) (.const (.int .i64 k)), type := ty, pos := ps, after := af, guard := none } a w K Q := by
  obtain ⟨q0, e0⟩ : w.cell? ⟨N, 0, none⟩ = some c0 ∧ w.frozen? ⟨N, 0, none⟩ = false := by simp [World.cell?, World.frozen?, hc]
  have ql := lt_of_block hc
  clear hc
  go_simp
  exact h
theorem wp_store1k (ps : String) (ty : TypeId) (af : Array Edge) (a : Act) (w : World) (K : Act → World → Prop) (Q : Exit → Act → World → Prop) (N : Nat) (x : Nat) (k : Int) (c0 : Value)
    (hx : a.tmps[x]?.getD undef = .pointer (some ⟨N, 0, none⟩)) (hc : w.heap[N]? = some (.cells #[c0] 3 (0, 0))) (h : K a (w.setCell ⟨N, 0, none⟩ (.int .i64 k))) :
    Oper.wp Tryz.prog { dst := none, op := .store 3 (.tmp x) (.const (.int .i64 k)), type := ty, pos := ps, after := af, guard := none } a w K Q := by
  obtain ⟨q0, e0⟩ : w.cell? ⟨N, 0, none⟩ = some c0 ∧ w.frozen? ⟨N, 0, none⟩ = false := by simp [World.cell?, World.frozen?, hc]
  have ql := lt_of_block hc
  clear hc
  go_simp
  exact h
end Parse
end Go.Proofs.YtadpjkehflokcaaGreatDoor
namespace Go.Proofs.YtadpjkehflokcaaGreatDoor
open Go.RowKit
set_option linter.unusedVariables false
set_option linter.unusedSimpArgs false
namespace Parse
open Token (Tok tel ToksAt)
open Term (Tm Hd TmIs Kids ret_bool ret_i64 Reads veil Flat tcells)

theorem catch_idle (p q : Addr) (w : World) :
    CallsD Tryz.prog 50 #[.pointer (some p), .pointer (some q)] .returning w fun e u' w' => e = .returned (.tuple #[]) ∧ u' = .returning ∧ w' = w := by
  refine callsD_of_wpS Tryz.func50 rfl fun c₀ cs hu => ?_
  apply wpS_seq
  apply wpS_region
  simp [wpOpsS, go_sem, recoverD, hu, Tryz.ntmps50, Exit.thenS]
  refine wpS_of_wp ?_
  have hnil : ∀ w : World, (binOp BinOp.eql 20 .nilIface .nilIface).run Tryz.prog w = .ok (.bool true) w := fun _ => by kernel_rfl
  go_wp2
  cases c₀
  simp_all [bodyPostS, results, Tryz.results50]

set_option maxRecDepth 100000 in
set_option maxHeartbeats 1600000 in
theorem catch_stray (N1 N2 : Nat) (t : Tok) (x y : Int) (w : World) (hp : w.cell? ⟨N1, 0, none⟩ = some (.int .i64 x)) (hq : w.cell? ⟨N2, 0, none⟩ = some (.int .i64 y)) (hp0 : w.frozen? ⟨N1, 0, none⟩ = false) (hq0 : w.frozen? ⟨N2, 0, none⟩ = false) (hpq : ¬ N1 = N2) (hqp : ¬ N2 = N1) (hpl : N1 < w.heap.size) (hql : N2 < w.heap.size) :
    CallsD Tryz.prog 50 #[.pointer (some ⟨N1, 0, none⟩), .pointer (some ⟨N2, 0, none⟩)] (.panicking [{ v := strayV t, recovered := false }]) w fun e u' w' => e = .returned (.tuple #[]) ∧ u' = .panicking [{ v := strayV t, recovered := true }] ∧ w' = ((w.setCell ⟨N1, 0, none⟩ (.int .i64 t.a)).setCell ⟨N2, 0, none⟩ (.int .i64 2)).alloc (.cells #[.int .u8 t.k, .string t.s, .int .i64 t.a] 84) := by
  refine callsD_of_wpS Tryz.func50 rfl fun c₀ cs hu => ?_
  unfold strayV at hu ⊢
  apply wpS_seq
  apply wpS_region
  simp [wpOpsS, go_sem, recoverD, hu, Tryz.ntmps50, Exit.thenS]
  refine wpS_of_wp ?_
  have hnil : ∀ w : World, (binOp BinOp.eql 20 (.iface 84 (.agg #[.int .u8 t.k, .string t.s, .int .i64 t.a])) .nilIface).run Tryz.prog w = .ok (.bool false) w := fun _ => by kernel_rfl
  have hta : ∀ w : World, (Instr.typeAssert (.iface 84 (.agg #[.int .u8 t.k, .string t.s, .int .i64 t.a])) 20 84 true).run Tryz.prog w = .ok (.tuple #[.agg #[.int .u8 t.k, .string t.s, .int .i64 t.a], .bool true]) w := fun _ => by kernel_rfl
  go_wp2
  simp [bodyPostS, results, Tryz.results50]
end Parse
end Go.Proofs.YtadpjkehflokcaaGreatDoor
namespace Go.Proofs.YtadpjkehflokcaaGreatDoor
open Go.RowKit
set_option linter.unusedVariables false
set_option linter.unusedSimpArgs false
namespace Parse
open Token (Tok tel ToksAt BytesIn LexEnd lex endT)
open Term (Tm Hd TmIs Kids ret_bool ret_i64 Reads veil Flat tcells)

/-- What a text comes to: a place and an error's number, or a term. -/
inductive PRes where
  | bad (a k : Int)
  | good (t : Tm)
def fuelOf (T : List Tok) : Nat := 12 * T.length + 12
def resOf (T : List Tok) (r : Option (St × Tm)) : PRes :=
  match r with
  | none => .bad 0 0
  | some r => if r.1.bad = false ∧ (tel T r.1.i).k = 6 then .good r.2 else .bad (tel T r.1.i).a 2
def toksRes (ts : List Tok) (m : Nat) : PRes :=
  if 4000 < ts.length then .bad (tel ts 4000).a 3 else resOf (ts ++ [endT m]) (exprF (ts ++ [endT m]) (fuelOf (ts ++ [endT m])) ⟨0, false⟩)
def termRes (xs : List Int) : PRes :=
  if 65536 < xs.length then .bad 0 3 else
  match lex xs 0 with
  | .inl k => .bad k 2
  | .inr ts => toksRes ts xs.length
/-- How Term ends. -/
def TermRet (res : PRes) (w : World) (e : Ending) (w' : World) : Prop :=
  Below w.heap.size w w' ∧
  ((∃ a k, res = .bad a k ∧ e = .returned (.tuple #[.agg #[.int .u8 0, .int .u8 0, .int .i64 0, .int .i64 0, .string ⟨#[]⟩, .string ⟨#[]⟩, .string ⟨#[]⟩, .slice none 0 0], .int .i64 a, .int .i64 k])) ∨
   (∃ t h p l d, res = .good t ∧ e = .returned (.tuple #[.agg #[.int .u8 h.k, .int .u8 h.op, .int .i64 h.pl, .int .i64 h.n, .string h.name, .string h.arg, .string h.exn, .slice p l d], .int .i64 0, .int .i64 0]) ∧ TmIs (fresh w.heap.size w') h p l d t))
theorem boxes3 {w W : World} {A B C : Obj} (hb : Below (((w.alloc A).alloc B).alloc C).heap.size (((w.alloc A).alloc B).alloc C) W) : W.heap[w.heap.size]? = some A ∧ W.heap[w.heap.size + 1]? = some B ∧ W.heap[w.heap.size + 2]? = some C ∧ Below w.heap.size w W := by
  obtain ⟨h1, h2⟩ := one_box hb
  obtain ⟨h3, h4⟩ := one_box h2
  obtain ⟨h5, h6⟩ := one_box h4
  have s1 : (w.alloc A).heap.size = w.heap.size + 1 := by simp
  have s2 : ((w.alloc A).alloc B).heap.size = w.heap.size + 2 := by simp
  exact ⟨h5, by rw [← s1]; exact h3, by rw [← s2]; exact h1, h6⟩
theorem cells1' {W : World} {N : Nat} {a : Value} {ty : TypeId} (h : W.heap[N]? = some (.cells #[a] ty (0, 0))) : W.cell? ⟨N, 0, none⟩ = some a ∧ W.frozen? ⟨N, 0, none⟩ = false := by simp [World.cell?, World.frozen?, h]

theorem set_above {B : Nat} (w : World) (N j : Nat) (v : Value) (h : B ≤ N) : Below B w (w.setCell ⟨N, j, none⟩ v) := (Below.refl B w).setCell (show B ≤ N from h) v
theorem ToksAt.far {w W : World} {g : Nat} {ts : List Tok} (h : ToksAt w g ts) (he : W.heap[g]? = w.heap[g]?) : ToksAt W g ts := by
  intro i hi
  obtain ⟨h0, h1, h2⟩ := h i hi
  have e : ∀ o : Nat, W.cell? ⟨g, o, none⟩ = w.cell? ⟨g, o, none⟩ := fun o => World.cell?_of_block (a := ⟨g, o, none⟩) he
  exact ⟨(e _).trans h0, (e _).trans h1, (e _).trans h2⟩
theorem toks_ne {w : World} {g N : Nat} {ts : List Tok} {k : Int} {ty : TypeId} (h : ToksAt w g ts) (h0 : 0 < ts.length) (hN : w.heap[N]? = some (.cells #[.int .i64 k] ty (0, 0))) : g ≠ N := by
  rintro rfl
  obtain ⟨h1, _, _⟩ := h 0 h0
  simp [World.cell?, hN] at h1
theorem place_tok {ts : List Tok} {xs : List Int} {a : Nat} (h : Token.Placed xs a ts) : ∀ t ∈ ts, t.s.size ≤ xs.length ∧ t.a ≤ a + xs.length := by
  induction ts generalizing xs a with
  | nil => intro t ht; cases ht
  | cons u us ih =>
    obtain ⟨j, _, h2, h3, h4, h5⟩ := h
    have hp := Token.pieceN_pos _ h2
    rw [List.length_drop] at hp
    intro t ht
    rcases List.mem_cons.1 ht with rfl | ht
    · rw [h4]
      constructor
      · show (strOfNums ((xs.drop j).take _)).size ≤ _
        rw [show (strOfNums ((xs.drop j).take (Token.pieceN (xs.drop j)))).size = ((xs.drop j).take (Token.pieceN (xs.drop j))).length from by have := congrArg List.length (strOfNums_data ((xs.drop j).take (Token.pieceN (xs.drop j)))); simpa using this]
        rw [List.length_take, List.length_drop]
        omega
      · show a + j ≤ _
        omega
    · have hh := ih h5 t ht
      rw [List.length_drop, List.length_drop] at hh
      omega
theorem row_of_lex {w : World} {g c : Nat} {xs : List Int} {ts : List Tok} (hk : lex xs 0 = .inr ts) (hx : xs.length ≤ 65536) (ht : ToksAt w g (ts ++ [endT xs.length])) (hcn : ts.length + 1 ≤ c) (hcm : c ≤ maxLen) : RowAt w g (ts.length + 1) c (ts ++ [endT xs.length]) := by
  have hp := place_tok (Token.lex_placed _ xs 0 ts (Nat.le_refl _) hk)
  have hl := Token.lex_len hk
  refine ⟨ht, by simp, ⟨hcn, hcm⟩, by omega, (good_of_lex hk).row, fun i hi => ?_, fun i hi => ?_⟩
  all_goals
    by_cases h1 : i < ts.length
    · rw [tel_left _ _ _ h1]
      have := hp _ (tel_mem h1)
      omega
    · obtain rfl : i = ts.length := by omega
      rw [tel_end]
      first | (show xs.length ≤ 70000; omega) | (show (⟨#[]⟩ : ByteArray).size ≤ 70000; exact e0_small)
theorem enough0 {T : List Tok} (h : Row T) : ∃ r, exprF T (fuelOf T) ⟨0, false⟩ = some r := by
  obtain ⟨r, hr, _⟩ := (enough T h (fuelOf T)).1 ⟨0, false⟩ h.ends.1 (by rw [need_good T rfl]; unfold fuelOf; show 12 * (T.length - 0) + 11 ≤ _; omega)
  exact ⟨r, hr⟩
theorem var_lt {w : World} {g : Nat} {nm : String} {cs : Array Value} (hg : Tryz.prog.globalNamed nm = some g) (h : w.var? Tryz.prog nm = some cs) : g < w.heap.size := by
  unfold World.var? at h
  rw [hg] at h
  simp only [Option.bind_some] at h
  rcases Nat.lt_or_ge g w.heap.size with h1 | h1
  · exact h1
  · rw [Array.getElem?_eq_none h1] at h; simp at h
theorem lay_of {w W : World} {P : Nat} (h : Words.NumLaid w) (hb : Below w.heap.size w W) (hP : w.heap.size ≤ P) : Lay W P := by
  obtain ⟨h1, tp, p, h2⟩ := h
  have g1 := var_lt Words.gPow h1
  have g2 := var_lt Words.gRange h2
  exact ⟨Words.NumLaid.below ⟨h1, tp, p, h2⟩ hb, by omega, by omega⟩
set_option maxRecDepth 100000 in
set_option maxHeartbeats 25600000 in
theorem whole_walk (p : Option Addr) (n d : Nat) (xs : List Int) (w : World) (hb : BytesIn w p n d xs) (hl : Words.Laid2 w) (hsm : xs.length ≤ 4000) :
    Calls Tryz.prog 25 #[.slice p n d, .func (.func 26) #[] #[]] w (TermRet (termRes xs) w) := by
  have hmf : ∀ (fn : Fn) (first cap : Array Value) (w : World), (Instr.makeFunc fn first cap).run Tryz.prog w = .ok (.func fn first cap) w := fun _ _ _ _ => rfl
  have hbx : ∀ A B C : Obj, Below w.heap.size w (((w.alloc A).alloc B).alloc C) := fun A B C => (((Below.refl _ _).alloc (Nat.le_refl _) A).alloc (by simp) B).alloc (by simp; omega) C
  have hlx := fun A B C => Token.lex_walk p n d xs (((w.alloc A).alloc B).alloc C) (hb.below (hbx A B C)) (hl.below (hbx A B C))
  have HLX := Lib.hid hlx; have HL := Lib.hid hl; have HSM := Lib.hid hsm
  have hxn := hb.1
  have HXN := Lib.hid hxn
  clear hlx hl hbx hb hxn hsm
  go_enter_defers Tryz.func25, Tryz.ntmps25
  go_wp2_with (fail)
  refine (HLX.out _ _ _).mono ?_
  rintro e w1 ⟨hbl, (⟨h1, q, c, rfl⟩ | ⟨h1, q, c, k, hk, rfl⟩ | ⟨h1, ts, g, c, hk, rfl, ht⟩)⟩
  · exact absurd h1 (by have := HSM.out; omega)
  · obtain ⟨b0, b1, b2, hB⟩ := boxes3 hbl
    have l0 := lt_of_block b0; have l1 := lt_of_block b1; have l2 := lt_of_block b2
    obtain ⟨⟨r0, r1, r2, r3, r4, r5, r6, r7⟩, f0, f1, f2, f3, f4, f5, f6, f7⟩ := cells8' b0
    obtain ⟨s0, s1⟩ := cells1' (N := w.heap.size + 1) b1
    obtain ⟨t0, t1⟩ := cells1' (N := w.heap.size + 1 + 1) b2
    have u0 := (Below.heap_setCell (w1.setCell ⟨w.heap.size + 1, 0, none⟩ (.int .i64 (k : Int))) ⟨w.heap.size + 1 + 1, 0, none⟩ (.int .i64 2) w.heap.size (by show w.heap.size ≠ w.heap.size + 1 + 1; omega)).trans ((Below.heap_setCell w1 ⟨w.heap.size + 1, 0, none⟩ (.int .i64 (k : Int)) w.heap.size (by show w.heap.size ≠ w.heap.size + 1; omega)).trans b0)
    have u1 := (Below.heap_setCell (w1.setCell ⟨w.heap.size + 1, 0, none⟩ (.int .i64 (k : Int))) ⟨w.heap.size + 1 + 1, 0, none⟩ (.int .i64 2) (w.heap.size + 1) (by show w.heap.size + 1 ≠ w.heap.size + 1 + 1; omega)).trans (set_block (j := 0) (v := .int .i64 (k : Int)) b1)
    have u2 := set_block (j := 0) (v := .int .i64 2) ((Below.heap_setCell w1 ⟨w.heap.size + 1, 0, none⟩ (.int .i64 (k : Int)) (w.heap.size + 1 + 1) (by show w.heap.size + 1 + 1 ≠ w.heap.size + 1; omega)).trans b2)
    have hBU := (hB.trans (set_above (B := w.heap.size) w1 (w.heap.size + 1) 0 (.int .i64 (k : Int)) (by omega))).trans (set_above (B := w.heap.size) _ (w.heap.size + 1 + 1) 0 (.int .i64 2) (by omega))
    have HBZ0 := Lib.hid u0; have HBZ1 := Lib.hid u1; have HBZ2 := Lib.hid u2; have HBU := Lib.hid hBU
    clear u0 u1 u2 hBU
    clear hbl b0 b1 b2 hB
    go_wp2_with (fail)
    generalize hg : (w1.setCell ⟨w.heap.size + 1, 0, none⟩ (.int .i64 (k : Int))).setCell ⟨w.heap.size + 1 + 1, 0, none⟩ (.int .i64 2) = u at *
    clear hg r0 r1 r2 r3 r4 r5 r6 r7 f0 f1 f2 f3 f4 f5 f6 f7 s0 s1 t0 t1 l0 l1 l2
    rename_i K1 a1 K2 a2
    have A2 := Lib.hid a2
    clear a1 a2
    refine wp_region_noPanic ?_
    refine wp_region_held_drew (S := fun W => W.heap[w.heap.size]? = some (.cells #[.int .u8 0, .int .u8 0, .int .i64 0, .int .i64 0, .string ⟨#[]⟩, .string ⟨#[]⟩, .string ⟨#[]⟩, .slice none 0 0] 29 (0, 0)) ∧ W.heap[w.heap.size + 1]? = some (.cells #[.int .i64 (k : Int)] 3 (0, 0)) ∧ W.heap[w.heap.size + 1 + 1]? = some (.cells #[.int .i64 2] 32 (0, 0)) ∧ Below w.heap.size w W) (by kernel_rfl) ⟨HBZ0.out, HBZ1.out, HBZ2.out, HBU.out.trans ((Below.refl _ _).drew)⟩ (fun hHeld => ?_)
    generalize hv : u.drew = v at hHeld ⊢
    clear hv
    refine wpAnyH_take (i := 0) (v := .agg #[.int .u8 0, .int .u8 0, .int .i64 0, .int .i64 0, .string ⟨#[]⟩, .string ⟨#[]⟩, .string ⟨#[]⟩, .slice none 0 0]) rfl (by kernel_rfl) (by kernel_rfl) (by kernel_rfl) (fun _ _ _ h => h) (Or.inl ⟨by rfl, ?_⟩) (by assumption) ?_
    · intro w' hSw
      obtain ⟨⟨q0, q1, q2, q3, q4, q5, q6, q7⟩, e0, e1, e2, e3, e4, e5, e6, e7⟩ := cells8' hSw.1
      go_simp
    try simp only [Act.put, List.getElem_toArray, List.getElem_cons_succ, List.getElem_cons_zero, List.setIfInBounds_toArray, List.set_cons_zero, List.set_cons_succ]
    refine wpAnyH_take (i := 1) (v := .int .i64 (k : Int)) rfl (by kernel_rfl) (by kernel_rfl) (by kernel_rfl) (fun _ _ _ h => h) (Or.inl ⟨by rfl, ?_⟩) (by assumption) ?_
    · intro w' hSw
      obtain ⟨q0, e0⟩ := cells1' hSw.2.1
      go_simp
    try simp only [Act.put, List.getElem_toArray, List.getElem_cons_succ, List.getElem_cons_zero, List.setIfInBounds_toArray, List.set_cons_zero, List.set_cons_succ]
    refine wpAnyH_take (i := 2) (v := .int .i64 2) rfl (by kernel_rfl) (by kernel_rfl) (by kernel_rfl) (fun _ _ _ h => h) (Or.inl ⟨by rfl, ?_⟩) (by assumption) ?_
    · intro w' hSw
      obtain ⟨q0, e0⟩ := cells1' hSw.2.2.1
      go_simp
    try simp only [Act.put, List.getElem_toArray, List.getElem_cons_succ, List.getElem_cons_zero, List.setIfInBounds_toArray, List.set_cons_zero, List.set_cons_succ]
    refine wpAnyH_ready (rs := [3]) (by kernel_rfl) (by simp) ?_
    refine AllReadyH.cons rfl (fun K hK => ?_) AllReadyH.nil
    have HH := Lib.hid hHeld
    clear hHeld
    rw [if_pos (by rfl)]
    refine wp_store8 _ _ _ _ _ _ _ _ _ _ _ _ _ _ _ _ _ _ _ _ _ _ _ _ _ _ _ _ rfl rfl HH.out.1 ?_
    refine hK.out _ _ ?_ (fun hHeld => ?_)
    · exact ⟨set8_block HH.out.1, (set8_other v w.heap.size _ _ _ _ _ _ _ _ (w.heap.size + 1) (by omega)).trans HH.out.2.1, (set8_other v w.heap.size _ _ _ _ _ _ _ _ (w.heap.size + 1 + 1) (by omega)).trans HH.out.2.2.1, HH.out.2.2.2.trans (Below.set8 w v _ (Nat.le_refl _) _ _ _ _ _ _ _ _)⟩
    clear hK K HH
    generalize hg : ((((((((v.setCell ⟨w.heap.size, 0, none⟩ (.int .u8 0)).setCell ⟨w.heap.size, 1, none⟩ (.int .u8 0)).setCell ⟨w.heap.size, 2, none⟩ (.int .i64 0)).setCell ⟨w.heap.size, 3, none⟩ (.int .i64 0)).setCell ⟨w.heap.size, 4, none⟩ (.string ⟨#[]⟩)).setCell ⟨w.heap.size, 5, none⟩ (.string ⟨#[]⟩)).setCell ⟨w.heap.size, 6, none⟩ (.string ⟨#[]⟩)).setCell ⟨w.heap.size, 7, none⟩ (.slice none 0 0)) = v2 at hHeld ⊢
    clear hg
    refine wpAnyH_ready (rs := [4]) (by kernel_rfl) (by simp) ?_
    refine AllReadyH.cons rfl (fun K hK => ?_) AllReadyH.nil
    have HH := Lib.hid hHeld
    clear hHeld
    rw [if_pos (by rfl)]
    refine wp_store1i _ _ _ _ _ _ _ _ _ _ _ _ rfl rfl HH.out.2.1 ?_
    refine hK.out _ _ ?_ (fun hHeld => ?_)
    · have n1 : w.heap.size ≠ w.heap.size + 1 := by omega
      have n2 : w.heap.size + 1 + 1 ≠ w.heap.size + 1 := by omega
      exact ⟨(Below.heap_setCell v2 ⟨w.heap.size + 1, 0, none⟩ (.int .i64 (k : Int)) w.heap.size n1).trans HH.out.1, set_block HH.out.2.1, (Below.heap_setCell v2 ⟨w.heap.size + 1, 0, none⟩ (.int .i64 (k : Int)) (w.heap.size + 1 + 1) n2).trans HH.out.2.2.1, HH.out.2.2.2.trans (set_above (B := w.heap.size) v2 (w.heap.size + 1) 0 _ (by omega))⟩
    clear hK K HH
    generalize hg : v2.setCell ⟨w.heap.size + 1, 0, none⟩ (.int .i64 (k : Int)) = v3 at hHeld ⊢
    clear hg
    refine wpAnyH_ready (rs := [5]) (by kernel_rfl) (by simp) ?_
    refine AllReadyH.cons rfl (fun K hK => ?_) AllReadyH.nil
    have HH := Lib.hid hHeld
    clear hHeld
    rw [if_pos (by rfl)]
    refine wp_store1e _ _ _ _ _ _ _ _ _ _ _ _ rfl rfl HH.out.2.2.1 ?_
    refine hK.out _ _ ?_ (fun hHeld => ?_)
    · have n1 : w.heap.size ≠ w.heap.size + 1 + 1 := by omega
      have n2 : w.heap.size + 1 ≠ w.heap.size + 1 + 1 := by omega
      exact ⟨(Below.heap_setCell v3 ⟨w.heap.size + 1 + 1, 0, none⟩ (.int .i64 2) w.heap.size n1).trans HH.out.1, (Below.heap_setCell v3 ⟨w.heap.size + 1 + 1, 0, none⟩ (.int .i64 2) (w.heap.size + 1) n2).trans HH.out.2.1, set_block HH.out.2.2.1, HH.out.2.2.2.trans (set_above (B := w.heap.size) v3 (w.heap.size + 1 + 1) 0 _ (by omega))⟩
    clear hK K HH
    generalize hg : v3.setCell ⟨w.heap.size + 1 + 1, 0, none⟩ (.int .i64 2) = v4 at hHeld ⊢
    clear hg
    refine wpAnyH_done (by kernel_rfl) ?_ _
    refine NoPanic.normal ?_
    have HH := Lib.hid hHeld
    clear hHeld
    have a2 := A2.out
    go_wp2_with (fail)
    obtain ⟨⟨q0, q1, q2, q3, q4, q5, q6, q7⟩, e0, e1, e2, e3, e4, e5, e6, e7⟩ := cells8' HH.out.1
    obtain ⟨q8, e8⟩ := cells1' HH.out.2.1
    obtain ⟨q9, e9⟩ := cells1' HH.out.2.2.1
    refine ⟨.tuple #[.agg #[.int .u8 0, .int .u8 0, .int .i64 0, .int .i64 0, .string ⟨#[]⟩, .string ⟨#[]⟩, .string ⟨#[]⟩, .slice none 0 0], .int .i64 (k : Int), .int .i64 2], by simp [results, Tryz.results25, go_sem, q0, q1, q2, q3, q4, q5, q6, q7, q8, q9], HH.out.2.2.2, .inl ⟨(k : Int), 2, (by unfold termRes; rw [if_neg (by omega), hk]), rfl⟩⟩
  · obtain ⟨ht, hcn, hcm⟩ := ht
    obtain ⟨b0, b1, b2, hB⟩ := boxes3 hbl
    have l0 := lt_of_block b0; have l1 := lt_of_block b1; have l2 := lt_of_block b2
    obtain ⟨⟨r0, r1, r2, r3, r4, r5, r6, r7⟩, f0, f1, f2, f3, f4, f5, f6, f7⟩ := cells8' b0
    obtain ⟨s0, s1⟩ := cells1' (N := w.heap.size + 1) b1
    obtain ⟨t0, t1⟩ := cells1' (N := w.heap.size + 1 + 1) b2
    have hT0 : 0 < (ts ++ [endT xs.length]).length := by simp
    have hg1 := toks_ne ht hT0 b1
    have hg2 := toks_ne ht hT0 b2
    have hgl : g < w1.heap.size := by obtain ⟨t0', _, _⟩ := ht 0 hT0; exact World.block_lt_of_cell? w1 _ t0'
    have u0 := (Below.heap_setCell (w1.setCell ⟨w.heap.size + 1, 0, none⟩ (.int .i64 0)) ⟨w.heap.size + 1 + 1, 0, none⟩ (.int .i64 0) w.heap.size (by show w.heap.size ≠ w.heap.size + 1 + 1; omega)).trans ((Below.heap_setCell w1 ⟨w.heap.size + 1, 0, none⟩ (.int .i64 0) w.heap.size (by show w.heap.size ≠ w.heap.size + 1; omega)).trans b0)
    have u1 := (Below.heap_setCell (w1.setCell ⟨w.heap.size + 1, 0, none⟩ (.int .i64 0)) ⟨w.heap.size + 1 + 1, 0, none⟩ (.int .i64 0) (w.heap.size + 1) (by show w.heap.size + 1 ≠ w.heap.size + 1 + 1; omega)).trans (set_block (j := 0) (v := .int .i64 0) b1)
    have u2 := set_block (j := 0) (v := .int .i64 0) ((Below.heap_setCell w1 ⟨w.heap.size + 1, 0, none⟩ (.int .i64 0) (w.heap.size + 1 + 1) (by show w.heap.size + 1 + 1 ≠ w.heap.size + 1; omega)).trans b2)
    have hBU := (hB.trans (set_above (B := w.heap.size) w1 (w.heap.size + 1) 0 (.int .i64 0) (by omega))).trans (set_above (B := w.heap.size) _ (w.heap.size + 1 + 1) 0 (.int .i64 0) (by omega))
    have HBZ0 := Lib.hid u0; have HBZ1 := Lib.hid u1; have HBZ2 := Lib.hid u2; have HBU := Lib.hid hBU
    have htu : ToksAt ((w1.setCell ⟨w.heap.size + 1, 0, none⟩ (.int .i64 0)).setCell ⟨w.heap.size + 1 + 1, 0, none⟩ (.int .i64 0)) g (ts ++ [endT xs.length]) := ToksAt.far ht ((Below.heap_setCell (w1.setCell ⟨w.heap.size + 1, 0, none⟩ (.int .i64 0)) ⟨w.heap.size + 1 + 1, 0, none⟩ (.int .i64 0) g hg2).trans (Below.heap_setCell w1 ⟨w.heap.size + 1, 0, none⟩ (.int .i64 0) g hg1))
    have HTU := Lib.hid htu; have HK := Lib.hid hk; have HCN := Lib.hid (And.intro hcn hcm)
    have hlen := Token.lex_len hk
    have hle : ts.length ≤ 4000 := by have := HSM.out; omega
    have ha : IntKind.i64.wrap (((ts.length + 1 : Nat) : Int) - 1) = (ts.length : Int) := by rw [show ((ts.length + 1 : Nat) : Int) - 1 = (ts.length : Int) by omega]; exact IntWalk.i64_in _ (by omega)
    have ha' : IntKind.i64.wrap ((ts.length : Int) + 1 - 1) = (ts.length : Int) := by rw [show (ts.length : Int) + 1 - 1 = (ts.length : Int) by omega]; exact IntWalk.i64_in _ (by omega)
    have hbz : ¬ (4000 : Int) < (ts.length : Int) := by omega
    have HLE := Lib.hid hle
    clear u0 u1 u2 hBU htu hk hcn hcm ht hT0 hg1 hg2 hlen hle hgl
    clear hbl b0 b1 b2 hB
    go_wp2_with (fail)
    generalize hgu : (w1.setCell ⟨w.heap.size + 1, 0, none⟩ (.int .i64 0)).setCell ⟨w.heap.size + 1 + 1, 0, none⟩ (.int .i64 0) = u at *
    have hsz : u.heap.size = w1.heap.size := by rw [← hgu]; simp [World.setCell]
    clear hgu r0 r1 r2 r3 r4 r5 r6 r7 f0 f1 f2 f3 f4 f5 f6 f7 s0 s1 t0 t1
    have hP : w.heap.size + 2 < w1.heap.size := l2
    rw [← hsz] at hP l0 l1 l2 ⊢
    clear hsz
    have hGd := good_of_lex HK.out
    have hgl : g < u.heap.size := by obtain ⟨t0', _, _⟩ := HTU.out 0 (by simp); exact World.block_lt_of_cell? u _ t0'
    have hal : ∀ O : Obj, Below u.heap.size u (u.alloc O) := fun O => (Below.refl _ _).alloc (Nat.le_refl _) O
    have hpr : PR (u.alloc (.cells #[.slice (some ⟨g, 0, none⟩) (ts.length + 1) c] 86)) u.heap.size g (ts.length + 1) c 0 (ts ++ [endT xs.length]) := by
      refine ⟨row_of_lex HK.out (by have := HSM.out; omega) (ToksAt.far HTU.out ((hal _).block _ hgl)) HCN.out.1 HCN.out.2, by omega, hGd, by omega, ?_⟩
      have hh := heap_alloc_new u (.cells #[.slice (some ⟨g, 0, none⟩) (ts.length + 1) c] 86)
      unfold PAt
      rw [hh]
      simp
    have hlay : Lay (u.alloc (.cells #[.slice (some ⟨g, 0, none⟩) (ts.length + 1) c] 86)) u.heap.size := lay_of HL.out.2 (HBU.out.trans ((Below.refl _ u).alloc (by omega) _)) (by omega)
    obtain ⟨r, hr⟩ := enough0 hGd.row
    have hres : termRes xs = resOf (ts ++ [endT xs.length]) (some r) := by
      unfold termRes
      rw [if_neg (by have := HSM.out; omega), HK.out]
      show toksRes ts xs.length = _
      unfold toksRes
      rw [if_neg (by have := HLE.out; omega), hr]
    have hex := expr_walk (fuelOf (ts ++ [endT xs.length])) _ _ _ _ _ _ _ r hpr hlay hr
    have HEX := Lib.hid hex; have HRES := Lib.hid hres; have HGD := Lib.hid hGd
    have HZA := Lib.hid (And.intro (((hal (.cells #[.slice (some ⟨g, 0, none⟩) (ts.length + 1) c] 86)).block _ l0).trans HBZ0.out) (And.intro (((hal (.cells #[.slice (some ⟨g, 0, none⟩) (ts.length + 1) c] 86)).block _ l1).trans HBZ1.out) (((hal (.cells #[.slice (some ⟨g, 0, none⟩) (ts.length + 1) c] 86)).block _ l2).trans HBZ2.out)))
    have HBW := Lib.hid (HBU.out.trans ((Below.refl w.heap.size u).alloc (by omega) (.cells #[.slice (some ⟨g, 0, none⟩) (ts.length + 1) c] 86)))
    clear hGd hpr hlay hr hres hex hal HTU HBZ0 HBZ1 HBZ2
    refine HEX.out.mono ?_
    rintro e y0 (⟨hbd, ⟨h, p0, l, d0, rfl, hT⟩, ho, hp⟩ | ⟨hbd, rfl, ho⟩)
    rotate_left
    · unfold thrown strayV
      have HZ0 := Lib.hid (box_later HZA.out.1 ho (by omega)); have HZ1 := Lib.hid (box_later HZA.out.2.1 ho (by omega)); have HZ2 := Lib.hid (box_later HZA.out.2.2 ho (by omega))
      have HBY : Hid (Below w.heap.size w y0) := Lib.hid ⟨ho.os.trans HBW.out.os, ho.tape.trans HBW.out.tape, ho.output.trans HBW.out.output, Nat.le_trans HBW.out.size ho.size, fun k hk => (ho.block k (Nat.lt_of_lt_of_le hk HBW.out.size) (by omega)).trans (HBW.out.block k hk)⟩
      have HRS : Hid (termRes xs = .bad (tel (ts ++ [endT xs.length]) r.1.i).a 2) := Lib.hid (by rw [HRES.out]; unfold resOf; exact if_neg (by rw [hbd]; simp))
      clear hbd ho ha ha' hbz
      go_wp2_with (fail)
      refine leaves_cons (f := 50) (args := #[.pointer (some ⟨w.heap.size + 1, 0, none⟩), .pointer (some ⟨w.heap.size + 1 + 1, 0, none⟩)]) (by simp) (by simp [go_sem]) ?_
      obtain ⟨q1, e1⟩ := cells1' HZ1.out
      obtain ⟨q2, e2⟩ := cells1' HZ2.out
      refine (catch_stray (w.heap.size + 1) (w.heap.size + 1 + 1) (tel (ts ++ [endT xs.length]) r.1.i) 0 0 _ q1 q2 e1 e2 (by omega) (by omega) (lt_of_block HZ1.out) (lt_of_block HZ2.out)).mono ?_
      rintro e u' w'' ⟨rfl, rfl, rfl⟩
      obtain ⟨⟨b0, b1, b2, b3, b4, b5, b6, b7⟩, f0, f1, f2, f3, f4, f5, f6, f7⟩ := cells8' HZ0.out
      have l0 := lt_of_block HZ0.out
      have l1 := lt_of_block HZ1.out
      have l2 := lt_of_block HZ2.out
      have n1 : ¬ w.heap.size = w.heap.size + 1 := by omega
      have n2 : ¬ w.heap.size = w.heap.size + 1 + 1 := by omega
      have n3 : ¬ w.heap.size + 1 = w.heap.size := by omega
      have n4 : ¬ w.heap.size + 1 + 1 = w.heap.size := by omega
      refine ⟨Value.tuple #[.agg #[.int .u8 0, .int .u8 0, .int .i64 0, .int .i64 0, .string ⟨#[]⟩, .string ⟨#[]⟩, .string ⟨#[]⟩, .slice none 0 0], .int .i64 (tel (ts ++ [endT xs.length]) r.1.i).a, .int .i64 2], by simp [results, Tryz.results25, go_sem, b0, b1, b2, b3, b4, b5, b6, b7, l0, l1, l2, q1, q2], ?_⟩
      refine ⟨(HBY.out.trans ((set_above (B := w.heap.size) _ (w.heap.size + 1) 0 _ (by omega)).trans (set_above (B := w.heap.size) _ (w.heap.size + 1 + 1) 0 _ (by omega)))).alloc (by have := HBY.out.size; simpa [World.setCell] using this) _, .inl ⟨_, _, HRS.out, rfl⟩⟩
    have HZ0 := Lib.hid (box_later HZA.out.1 ho (by omega)); have HZ1 := Lib.hid (box_later HZA.out.2.1 ho (by omega)); have HZ2 := Lib.hid (box_later HZA.out.2.2 ho (by omega))
    have HBY : Hid (Below w.heap.size w y0) := Lib.hid ⟨ho.os.trans HBW.out.os, ho.tape.trans HBW.out.tape, ho.output.trans HBW.out.output, Nat.le_trans HBW.out.size ho.size, fun k hk => (ho.block k (Nat.lt_of_lt_of_le hk HBW.out.size) (by omega)).trans (HBW.out.block k hk)⟩
    have hbx2 : ∀ O O' : Obj, Below y0.heap.size y0 ((y0.alloc O).alloc O') := fun O O' => ((Below.refl _ _).alloc (Nat.le_refl _) O).alloc (by simp) O'
    have hhs := fun O t => has_walk ((y0.alloc O).alloc (.cells #[.int .u8 6] t)) u.heap.size g (ts.length + 1) c r.1.i (ts ++ [endT xs.length]) (some ⟨y0.heap.size + 1, 0, none⟩) 1 1 [6] (hp.below (hbx2 _ _)) rfl (by unfold maxLen; omega) (fun W' hb' => by
      have hx := bytes_alloc (y0.alloc O) t [6]
      rw [show (y0.alloc O).heap.size = y0.heap.size + 1 from by simp] at hx
      rcases hx with hh | ⟨b, o, e, hc⟩
      · cases hh
      · exact .inr ⟨b, o, e, fun j hj => (hb'.cell (p := ⟨b, o + j, none⟩) (World.block_lt_of_cell? _ _ (hc j hj))).trans (hc j hj)⟩)
    have hsu : u.heap.size < y0.heap.size := Nat.lt_of_lt_of_le (by simp) ho.size
    have HHS := Lib.hid hhs; have HP := Lib.hid hp; have HT := Lib.hid hT; have HBD := Lib.hid hbd; have HSU := Lib.hid hsu
    clear hhs hbx2 hp hT hbd ho hsu ha ha' hbz
    go_wp2_with (fail)
    refine (HHS.out _ _).mono ?_
    rintro e y1 ⟨rfl, hb1⟩
    have hbb : Below y0.heap.size y0 y1 ∧ y1.heap[y0.heap.size]? = some (.cells #[.int .u8 h.k, .int .u8 h.op, .int .i64 h.pl, .int .i64 h.n, .string h.name, .string h.arg, .string h.exn, .slice p0 l d0] 29 (0, 0)) := by
      obtain ⟨_, hb2⟩ := one_box hb1
      obtain ⟨hb3, hb4⟩ := one_box hb2
      exact ⟨hb4, hb3⟩
    obtain ⟨hb2, htb⟩ := hbb
    have HB2 := Lib.hid hb2; have HTB := Lib.hid htb
    have HY0 := Lib.hid ((hb2.block _ (lt_of_block HZ0.out)).trans HZ0.out); have HY1 := Lib.hid ((hb2.block _ (lt_of_block HZ1.out)).trans HZ1.out); have HY2 := Lib.hid ((hb2.block _ (lt_of_block HZ2.out)).trans HZ2.out)
    have HBY1 : Hid (Below w.heap.size w y1) := Lib.hid (HBY.out.trans (hb2.mono HBY.out.size))
    clear hb1 hb2 htb HHS HZ0 HZ1 HZ2 HBY
    cases hk : Chars.isin [6] (tel (ts ++ [endT xs.length]) r.1.i).k
    · have hk6 : (tel (ts ++ [endT xs.length]) r.1.i).k ≠ 6 := by unfold Chars.isin at hk; simpa using hk
      have hnd := need_walk y1 u.heap.size g (ts.length + 1) c r.1.i (ts ++ [endT xs.length]) (HP.out.below HB2.out)
      have HND := Lib.hid hnd
      unfold thrown strayV at HND
      have HRS : Hid (termRes xs = .bad (tel (ts ++ [endT xs.length]) r.1.i).a 2) := Lib.hid (by rw [HRES.out]; unfold resOf; exact if_neg fun e => hk6 e.2)
      clear hk hk6 hnd
      go_wp2_with (fail)
      refine HND.out.mono ?_
      rintro e y2 ⟨rfl, hb3⟩
      have HZ0 := Lib.hid ((hb3.block _ (lt_of_block HY0.out)).trans HY0.out); have HZ1 := Lib.hid ((hb3.block _ (lt_of_block HY1.out)).trans HY1.out); have HZ2 := Lib.hid ((hb3.block _ (lt_of_block HY2.out)).trans HY2.out)
      have HBY : Hid (Below w.heap.size w y2) := Lib.hid (HBY1.out.trans (hb3.mono HBY1.out.size))
      clear hb3
      go_wp2_with (fail)
      refine leaves_cons (f := 50) (args := #[.pointer (some ⟨w.heap.size + 1, 0, none⟩), .pointer (some ⟨w.heap.size + 1 + 1, 0, none⟩)]) (by simp) (by simp [go_sem]) ?_
      obtain ⟨q1, e1⟩ := cells1' HZ1.out
      obtain ⟨q2, e2⟩ := cells1' HZ2.out
      refine (catch_stray (w.heap.size + 1) (w.heap.size + 1 + 1) (tel (ts ++ [endT xs.length]) r.1.i) 0 0 _ q1 q2 e1 e2 (by omega) (by omega) (lt_of_block HZ1.out) (lt_of_block HZ2.out)).mono ?_
      rintro e u' w'' ⟨rfl, rfl, rfl⟩
      obtain ⟨⟨b0, b1, b2, b3, b4, b5, b6, b7⟩, f0, f1, f2, f3, f4, f5, f6, f7⟩ := cells8' HZ0.out
      have l0 := lt_of_block HZ0.out
      have l1 := lt_of_block HZ1.out
      have l2 := lt_of_block HZ2.out
      have n1 : ¬ w.heap.size = w.heap.size + 1 := by omega
      have n2 : ¬ w.heap.size = w.heap.size + 1 + 1 := by omega
      have n3 : ¬ w.heap.size + 1 = w.heap.size := by omega
      have n4 : ¬ w.heap.size + 1 + 1 = w.heap.size := by omega
      refine ⟨Value.tuple #[.agg #[.int .u8 0, .int .u8 0, .int .i64 0, .int .i64 0, .string ⟨#[]⟩, .string ⟨#[]⟩, .string ⟨#[]⟩, .slice none 0 0], .int .i64 (tel (ts ++ [endT xs.length]) r.1.i).a, .int .i64 2], by simp [results, Tryz.results25, go_sem, b0, b1, b2, b3, b4, b5, b6, b7, l0, l1, l2, q1, q2], ?_⟩
      refine ⟨(HBY.out.trans ((set_above (B := w.heap.size) _ (w.heap.size + 1) 0 _ (by omega)).trans (set_above (B := w.heap.size) _ (w.heap.size + 1 + 1) 0 _ (by omega)))).alloc (by have := HBY.out.size; simpa [World.setCell] using this) _, .inl ⟨_, _, HRS.out, rfl⟩⟩
    · have hk6 : (tel (ts ++ [endT xs.length]) r.1.i).k = 6 := by unfold Chars.isin at hk; simpa using hk
      have HRS : Hid (termRes xs = .good r.2) := Lib.hid (by rw [HRES.out]; unfold resOf; exact if_pos ⟨HBD.out, hk6⟩)
      clear hk hk6
      go_wp2_with (fail)
      refine (need_ok _ _).mono ?_
      rintro e y2 ⟨rfl, rfl⟩
      obtain ⟨⟨b0, b1, b2, b3, b4, b5, b6, b7⟩, f0, f1, f2, f3, f4, f5, f6, f7⟩ := cells8' HY0.out
      obtain ⟨⟨t0, t1, t2, t3, t4, t5, t6, t7⟩, g0, g1, g2, g3, g4, g5, g6, g7⟩ := cells8' HTB.out
      obtain ⟨q1, e1⟩ := cells1' HY1.out
      obtain ⟨q2, e2⟩ := cells1' HY2.out
      have l0' := lt_of_block HY0.out
      have l1' := lt_of_block HY1.out
      have l2' := lt_of_block HY2.out
      have lt' := lt_of_block HTB.out
      go_wp2_with (fail)
      refine leaves_cons (f := 50) (args := #[.pointer (some ⟨w.heap.size + 1, 0, none⟩), .pointer (some ⟨w.heap.size + 1 + 1, 0, none⟩)]) (by simp) (by simp [go_sem]) ?_
      refine (catch_idle _ _ _).mono ?_
      rintro e u' w'' ⟨rfl, rfl, rfl⟩
      have n1 : ¬ w.heap.size = w.heap.size + 1 := by omega
      have n2 : ¬ w.heap.size = w.heap.size + 1 + 1 := by omega
      have n3 : ¬ w.heap.size + 1 = w.heap.size := by omega
      have n4 : ¬ w.heap.size + 1 + 1 = w.heap.size := by omega
      refine ⟨Value.tuple #[.agg #[.int .u8 h.k, .int .u8 h.op, .int .i64 h.pl, .int .i64 h.n, .string h.name, .string h.arg, .string h.exn, .slice p0 l d0], .int .i64 0, .int .i64 0], by simp [results, Tryz.results25, go_sem, b0, b1, b2, b3, b4, b5, b6, b7, l0', l1', l2', q1, q2], ?_⟩
      have hbw := ((Below.set8 w y1 w.heap.size (Nat.le_refl _) (.int .u8 h.k) (.int .u8 h.op) (.int .i64 h.pl) (.int .i64 h.n) (.string h.name) (.string h.arg) (.string h.exn) (.slice p0 l d0)).trans (set_above (B := w.heap.size) _ (w.heap.size + 1) 0 (.int .i64 0) (by omega))).trans (set_above (B := w.heap.size) _ (w.heap.size + 1 + 1) 0 (.int .i64 0) (by omega))
      refine ⟨HBY1.out.trans hbw, .inr ⟨r.2, h, p0, l, d0, HRS.out, rfl, ?_⟩⟩
      refine HT.out.reads' (fresh_step (B := w.heap.size) (W := (((((((((((y1.setCell ⟨w.heap.size, 0, none⟩ (.int .u8 h.k)).setCell ⟨w.heap.size, 1, none⟩ (.int .u8 h.op)).setCell ⟨w.heap.size, 2, none⟩ (.int .i64 h.pl)).setCell ⟨w.heap.size, 3, none⟩ (.int .i64 h.n)).setCell ⟨w.heap.size, 4, none⟩ (.string h.name)).setCell ⟨w.heap.size, 5, none⟩ (.string h.arg)).setCell ⟨w.heap.size, 6, none⟩ (.string h.exn)).setCell ⟨w.heap.size, 7, none⟩ (.slice p0 l d0))).setCell ⟨w.heap.size + 1, 0, none⟩ (.int .i64 0)).setCell ⟨w.heap.size + 1 + 1, 0, none⟩ (.int .i64 0))) (by simp; omega) fun k hk1 hk2 => ?_)
      have hk3 : u.heap.size + 1 ≤ k := by simpa using hk1
      exact ((Below.heap_setCell _ _ _ _ (by show k ≠ w.heap.size + 1 + 1; omega)).trans (Below.heap_setCell _ _ _ _ (by show k ≠ w.heap.size + 1; omega))).trans ((set8_other y1 w.heap.size (.int .u8 h.k) (.int .u8 h.op) (.int .i64 h.pl) (.int .i64 h.n) (.string h.name) (.string h.arg) (.string h.exn) (.slice p0 l d0) k (by omega)).trans (HB2.out.block k hk2))
end Parse
end Go.Proofs.YtadpjkehflokcaaGreatDoor
namespace Go.Proofs.YtadpjkehflokcaaGreatDoor
open Go.RowKit
set_option linter.unusedVariables false
set_option linter.unusedSimpArgs false
namespace Parse
open Token (Tok tel ToksAt BytesIn LexEnd lex endT)
open Term (Tm Hd TmIs Kids ret_bool ret_i64 Reads veil Flat tcells)

set_option maxRecDepth 100000 in
set_option maxHeartbeats 6400000 in
theorem parseTerm_walk (p : Option Addr) (n d : Nat) (xs : List Int) (w : World) (hb : BytesIn w p n d xs) (hl : Words.Laid2 w) (hsm : xs.length ≤ 4000) :
    Calls Tryz.prog 8 #[.slice p n d] w (TermRet (termRes xs) w) := by
  have hbx : ∀ A : Obj, Below w.heap.size w (w.alloc A) := fun A => (Below.refl _ _).alloc (Nat.le_refl _) A
  have hwh := fun A => whole_walk p n d xs (w.alloc A) (hb.below (hbx A)) (hl.below (hbx A)) hsm
  have HWH := Lib.hid hwh
  clear hwh hbx hb hl hsm
  go_enter Tryz.func8, Tryz.ntmps8
  go_wp2_with (fail)
  refine (HWH.out _).mono ?_
  rintro e w1 ⟨hbl, (⟨a, k, hres, rfl⟩ | ⟨t, h, p1, l, d1, hres, rfl, hT⟩)⟩
  · obtain ⟨hr, hB⟩ := one_box hbl
    obtain ⟨⟨b0, b1, b2, b3, b4, b5, b6, b7⟩, f0, f1, f2, f3, f4, f5, f6, f7⟩ := cells8' hr
    have rl := lt_of_block hr
    have H := Lib.hid (And.intro hres hB)
    clear hbl hr hres hB
    go_wp2_with (fail)
    refine bodyPost_ret (v := .tuple #[.agg #[.int .u8 0, .int .u8 0, .int .i64 0, .int .i64 0, .string ⟨#[]⟩, .string ⟨#[]⟩, .string ⟨#[]⟩, .slice none 0 0], .int .i64 a, .int .i64 k]) (by simp [results, Tryz.results8, go_sem, rl, b0, b1, b2, b3, b4, b5, b6, b7]) rfl ⟨H.out.2.trans (Below.set8 w _ _ (Nat.le_refl _) _ _ _ _ _ _ _ _), .inl ⟨a, k, H.out.1, rfl⟩⟩
  · obtain ⟨hr, hB⟩ := one_box hbl
    obtain ⟨⟨b0, b1, b2, b3, b4, b5, b6, b7⟩, f0, f1, f2, f3, f4, f5, f6, f7⟩ := cells8' hr
    have rl := lt_of_block hr
    have H := Lib.hid (And.intro hres (And.intro hB hT))
    clear hbl hr hres hB hT
    go_wp2_with (fail)
    refine bodyPost_ret (v := .tuple #[.agg #[.int .u8 h.k, .int .u8 h.op, .int .i64 h.pl, .int .i64 h.n, .string h.name, .string h.arg, .string h.exn, .slice p1 l d1], .int .i64 0, .int .i64 0]) (by simp [results, Tryz.results8, go_sem, rl, b0, b1, b2, b3, b4, b5, b6, b7]) rfl
      ⟨H.out.2.1.trans (Below.set8 w _ _ (Nat.le_refl _) _ _ _ _ _ _ _ _), .inr ⟨t, h, p1, l, d1, H.out.1, rfl, H.out.2.2.reads' (fresh_box (N := w.heap.size) (by simp) (by simp) fun j hj _ => set8_other _ _ _ _ _ _ _ _ _ _ _ hj)⟩⟩
end Parse
end Go.Proofs.YtadpjkehflokcaaGreatDoor
