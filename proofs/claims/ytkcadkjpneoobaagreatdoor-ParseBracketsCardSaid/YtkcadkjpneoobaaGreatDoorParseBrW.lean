/- The walk of layer 5's statement on brackets, and on exceptions ahead of a text. -/
import Derived.Test.YtkcadkjpneoobaaGreatDoorParseAwake
import Derived.Test.YtkcadkjpneoobaaGreatDoorParsePr3
import Derived.Test.YtkcadkjpneoobaaGreatDoorParseBrM
import Derived.Test.YtkcadkjpneoobaaGreatDoorGTermB
import Derived.Lib.SmallJoins
namespace Go.Proofs.YtkcadkjpneoobaaGreatDoor
open Go.RowKit
set_option linter.unusedVariables false
set_option linter.unusedSimpArgs false
namespace Parse
open Token (Tok tel BytesIn lex endT tcells tcell)
open Term (Tm Hd TmIs Kids sameT tget Reads)
open Chars (Bytes BytesAt)

/-- A call of Term, told in one way. -/
theorem term_tuple {xs : List Int} {w w' : World} {e : Ending} (h : TermRet (termRes xs) w e w') : Below w.heap.size w w' ∧
    ∃ k op pl nn nm ar ex p l d a f, e = .returned (.tuple #[.agg #[.int .u8 k, .int .u8 op, .int .i64 pl, .int .i64 nn, .string nm, .string ar, .string ex, .slice p l d], .int .i64 a, .int .i64 f]) ∧
      ((f ≠ 0 ∧ ∀ x, termRes xs ≠ .good x) ∨ (f = 0 ∧ ∃ t, termRes xs = .good t ∧ TmIs w' ⟨k, op, pl, nn, nm, ar, ex⟩ p l d t)) := by
  obtain ⟨hb, (⟨a, k, hr, he⟩ | ⟨t, h, p, l, d, hr, he, hT⟩)⟩ := h
  · refine ⟨hb, 0, 0, 0, 0, ⟨#[]⟩, ⟨#[]⟩, ⟨#[]⟩, none, 0, 0, a, k, he, .inl ⟨?_, (fun x hx => (by rw [hr] at hx; cases hx))⟩⟩
    rintro rfl
    unfold termRes at hr
    split at hr
    · injection hr with _ h2; cases h2
    · split at hr
      · injection hr with _ h2; cases h2
      · rename_i ts hl
        unfold toksRes at hr
        split at hr
        · injection hr with _ h2; cases h2
        · obtain ⟨r, h1⟩ := enough0 (good_of_lex hl).row
          rw [h1] at hr
          unfold resOf at hr
          simp only at hr
          split at hr
          · cases hr
          · injection hr with _ h2; cases h2
  · obtain ⟨k, op, pl, nn, nm, ar, ex⟩ := h
    exact ⟨hb, k, op, pl, nn, nm, ar, ex, p, l, d, 0, 0, he, .inr ⟨rfl, t, hr, hT.reads' (Term.veil_reads _ _)⟩⟩
/-- A call of Parse, told in one way. -/
theorem prog_tuple {xs : List Int} {w w' : World} {e : Ending} (h : ProgRet (progRes xs) w e w') (hx : ∀ ts, lex xs 0 = .inr ts → ts.length ≤ 4000) (hx2 : xs.length ≤ 65536) : Below w.heap.size w w' ∧
    ∃ q m d0 k op pl nn nm ar ex p l d a f, e = .returned (.tuple #[.agg #[.slice q m d0, .int .u8 k, .int .u8 op, .int .i64 pl, .int .i64 nn, .string nm, .string ar, .string ex, .slice p l d], .int .i64 a, .int .i64 f]) ∧
      ((f ≠ 0 ∧ ∀ es x, progRes xs ≠ .good es x) ∨ (f = 0 ∧ ∃ es t, progRes xs = .good es t ∧ w'.ownsRow w.heap.size 45 3 (.slice q m d0) es.length (tcells es) ∧ TmIs w' ⟨k, op, pl, nn, nm, ar, ex⟩ p l d t)) := by
  obtain ⟨hb, (⟨a, k, hr, he⟩ | ⟨es, t, q, m, d0, h, p, l, d, hr, he, hO, hT⟩)⟩ := h
  · refine ⟨hb, none, 0, 0, 0, 0, 0, 0, ⟨#[]⟩, ⟨#[]⟩, ⟨#[]⟩, none, 0, 0, a, k, he, .inl ⟨?_, (fun es x hx => (by rw [hr] at hx; cases hx))⟩⟩
    rintro rfl
    unfold progRes at hr
    rw [if_neg (by omega)] at hr
    cases hl : lex xs 0 with
    | inl j => rw [hl] at hr; injection hr with _ h; cases h
    | inr ts =>
      rw [hl] at hr
      have h' : qtoksRes ts xs.length = .bad a 0 := hr
      unfold qtoksRes at h'
      have := hx ts hl
      rw [if_neg (by omega)] at h'
      obtain ⟨r, hr'⟩ := prog_enough (good_of_lex hl).row
      rw [hr'] at h'
      unfold qresOf at h'
      simp only at h'
      split at h'
      · cases h'
      · injection h' with _ h; cases h
  · obtain ⟨k, op, pl, nn, nm, ar, ex⟩ := h
    exact ⟨hb, q, m, d0, k, op, pl, nn, nm, ar, ex, p, l, d, 0, 0, he, .inr ⟨rfl, es, t, hr, hO, hT.reads' (Term.veil_reads _ _)⟩⟩
/-- Short texts have few tokens. -/
theorem few_toks {xs : List Int} (h : xs.length ≤ 4000) : ∀ ts, lex xs 0 = .inr ts → ts.length ≤ 4000 := fun ts hl => by have := Token.lex_len hl; omega
/-- A row of bytes that the call owns. -/
theorem own_bytes {w : World} {B n : Nat} {v : Value} {xs : List Int} (h : w.ownsRow B 5 1 v n (xs.map (Value.int .u8))) (hn : xs.length = n) (h0 : 0 < n) (hb : Bytes xs) : ∃ g c, v = .slice (some ⟨g, 0, none⟩) n c ∧ BytesIn w (some ⟨g, 0, none⟩) n c xs := by
  rcases h.2 with ⟨_, h1⟩ | ⟨g, cap, cur, rfl, _, hg, h1, h2, h3, h4⟩
  · omega
  · refine ⟨g, cap, rfl, hn, h1, h2, .inr ⟨g, 0, rfl, fun i hi => ?_⟩, hb⟩
    rw [Nat.zero_add, cell_of_row w g i cur _ (0, 0) hg]
    have h5 : (cur.toList.take (n * 1))[i]? = (xs.map (Value.int .u8))[i]? := by rw [h4]
    rw [List.getElem?_take, if_pos (by omega)] at h5
    rw [List.getD_eq_getElem?_getD, List.getElem?_eq_getElem hi]
    rw [List.getElem?_map, List.getElem?_eq_getElem hi] at h5
    simpa using h5
theorem infoB : (Tryz.prog.info? 5).map (fun i => (i.zero, i.size, i.bytes)) = some (some (.int .u8 0), 1, 1) := by kernel_rfl
/-- A row of bytes that grows: full, or owned. -/
def RowC (B : Nat) (w : World) (v : Value) (n : Nat) (xs : List Int) : Prop :=
  ∃ g c, v = .slice (some ⟨g, 0, none⟩) n c ∧ B ≤ g ∧ g < w.heap.size ∧ n ≤ c ∧ c ≤ maxLen ∧ xs.length = n ∧ (∀ j u, (xs.map (Value.int .u8))[j]? = some u → w.cell? ⟨g, j, none⟩ = some u) ∧ (c = n ∨ w.ownsRow B 5 1 v n (xs.map (Value.int .u8)))
theorem add0' (g j : Nat) : (⟨g, 0, none⟩ : Addr).add j = ⟨g, j, none⟩ := by unfold Addr.add; split <;> simp_all
theorem RowC.of_own {B : Nat} {w : World} {v : Value} {n : Nat} {xs : List Int} (h : w.ownsRow B 5 1 v n (xs.map (Value.int .u8))) (h0 : 0 < n) : RowC B w v n xs := by
  have h' := h
  rcases h.2 with ⟨_, h1⟩ | ⟨g, cap, cur, rfl, hb, hg, h1, h2, h3, h4⟩
  · omega
  · refine ⟨g, cap, rfl, hb, lt_of_block hg, h1, h2, by have := h.1; rw [List.length_map] at this; omega, fun j u hu => ?_, .inr h'⟩
    rw [← add0']
    exact h'.cells rfl j u hu
theorem RowC.bytes {B : Nat} {w : World} {v : Value} {n : Nat} {xs : List Int} (h : RowC B w v n xs) (hb : Bytes xs) : ∃ g c, v = .slice (some ⟨g, 0, none⟩) n c ∧ BytesIn w (some ⟨g, 0, none⟩) n c xs := by
  obtain ⟨g, c, rfl, _, _, h1, h2, h3, h4, _⟩ := h
  refine ⟨g, c, rfl, h3, h1, h2, .inr ⟨g, 0, rfl, fun i hi => ?_⟩, hb⟩
  rw [Nat.zero_add]
  refine h4 i _ ?_
  rw [List.getElem?_map, List.getElem?_eq_getElem hi, List.getD_eq_getElem?_getD, List.getElem?_eq_getElem hi]
  rfl
theorem RowC.alloc {B : Nat} {w : World} {v : Value} {n : Nat} {xs : List Int} (h : RowC B w v n xs) (O : Obj) : RowC B (w.alloc O) v n xs := by
  obtain ⟨g, c, e, h0, hl, h1, h2, h3, h4, h5⟩ := h
  refine ⟨g, c, e, h0, by simp; omega, h1, h2, h3, fun j u hu => ?_, h5.imp id (fun k => k.alloc O)⟩
  exact (World.cell?_of_block (a := ⟨g, j, none⟩) (Below.heap_alloc _ _ _ hl)).trans (h4 j u hu)
theorem RowC.lit {B : Nat} (W : World) (ys : List Int) (hB : B ≤ W.heap.size) (hy : ys.length ≤ 1000) (fr : Nat × Nat) : RowC B (W.alloc (.cells (ys.map (Value.int .u8)).toArray 5 fr)) (.slice (some ⟨W.heap.size, 0, none⟩) ys.length ys.length) ys.length ys := by
  refine ⟨W.heap.size, ys.length, rfl, hB, by simp, Nat.le_refl _, by unfold maxLen; omega, rfl, fun j u hu => ?_, .inl rfl⟩
  rw [World.cell?_alloc_mark]
  simpa using hu
/-- Appending a text, nil or not, to a row of bytes that grows. -/
theorem append_text {w : World} {ops : Array Oper} {rest : List Oper} {o : Oper} {a : Act} {Q : Exit → Act → World → Prop} (hgd : o.guard = none) (s x : Operand) (t : TypeId)
    (ho : o.op = .call { callee := .builtin .append, args := #[s, x], argTypes := #[t, t] }) (B : Nat) (ht : Tryz.prog.underlying t = some (.slice 5))
    (v : Value) (n : Nat) (ys : List Int) (hs : a.eval s = v) (hrow : RowC B w v n ys)
    (p : Option Addr) (m c : Nat) (xs : List Int) (hx : a.eval x = .slice p m c) (hb : BytesIn w p m c xs) (h63 : n + m ≤ 100000) (h0 : 0 < n) (hbase : B ≤ w.heap.size)
    (h : ∀ v' w', RowC B w' v' (n + m) (ys ++ xs) → w.grownBy w' v.ownBlock → wpList Tryz.prog ops Q rest (a.put o.dst v') w') : wpList Tryz.prog ops Q (o :: rest) a w := by
  obtain ⟨i0, hi, hz0, hz1, hz2⟩ := info_parts infoB
  have hrow' := hrow
  obtain ⟨g, c0, rfl, hBg, hgl, hnc, hcm, hyn, hcells, hown⟩ := hrow
  refine wpList_plain hgd fun K hK => ?_
  have hfin : ∀ v' w', (Builtin.append_ #[t, t] o.type #[.slice (some ⟨g, 0, none⟩) n c0, .slice p m c]).run Tryz.prog w = .ok v' w' → RowC B w' v' (n + m) (ys ++ xs) → w.grownBy w' (some g) → o.wp Tryz.prog a w K Q := by
    intro v' w' hr h1 h2
    unfold Oper.wp execOp
    simp only [ho, resolve, invoke, builtin, Sem.run_bind, Sem.run_pure, Result.andThen_ok, List.map_toArray, List.map_cons, List.map_nil, hs, hx, hr]
    exact hK _ _ (h v' w' h1 h2)
  have hsame : m = 0 → (Builtin.append_ #[t, t] o.type #[.slice (some ⟨g, 0, none⟩) n c0, .slice p m c]).run Tryz.prog w = .ok (.slice (some ⟨g, 0, none⟩) n c0) w := by
    rintro rfl
    cases p with
    | none => simp [Builtin.append_, run_underlying ht, sizeOf, typeInfo, hi, Builtin.lenOf, Builtin.firstCells, hnc, storeCells]
    | some ad => simp [Builtin.append_, run_underlying ht, sizeOf, typeInfo, hi, Builtin.lenOf, Builtin.firstCells, hnc, storeCells, loadCells, loadCellsFrom]
  by_cases hm : m = 0
  · have hx0 : xs = [] := List.eq_nil_of_length_eq_zero (hb.1.trans hm)
    refine hfin _ _ (hsame hm) ?_ ⟨rfl, rfl, rfl, Nat.le_refl _, fun _ _ _ => rfl⟩
    subst hm hx0
    rw [List.append_nil]
    exact hrow'
  · obtain ⟨b, off, rfl, hc⟩ := Token.BytesAt.cells hb.2.2.2.1 (by rw [hb.1]; omega)
    have hnews : ∀ j u, (xs.map (Value.int .u8))[j]? = some u → w.cell? ((⟨b, off, none⟩ : Addr).add j) = some u := by
      intro j u hj
      have hadd : (⟨b, off, none⟩ : Addr).add j = ⟨b, off + j, none⟩ := by unfold Addr.add; split <;> simp_all
      have hjl : j < xs.length := by
        have := (List.getElem?_eq_some_iff.1 hj).1
        simpa using this
      rw [hadd, hc j hjl]
      rw [List.getElem?_map, List.getElem?_eq_getElem hjl] at hj
      rw [List.getD_eq_getElem?_getD, List.getElem?_eq_getElem hjl]
      simpa using hj
    have hl : (xs.map (Value.int .u8)).length = m * 1 := by rw [List.length_map, hb.1, Nat.mul_one]
    have h1 : ∀ u ∈ xs.map (Value.int .u8), u.oneCell' = true := by
      intro u hu
      obtain ⟨y, _, rfl⟩ := List.mem_map.1 hu
      rfl
    rcases hown with rfl | hown
    · have hr := run_append_grow (P := Tryz.prog) w t o.type 5 i0 (.int .u8 0) ht hi hz0 ⟨g, 0, none⟩ c0 c0 (ys.map (Value.int .u8)) (by rw [List.length_map, hz1, hyn]; omega) (fun j u hu => by rw [add0']; exact hcells j u hu) ⟨b, off, none⟩ m c (xs.map (Value.int .u8)) (by rw [hz1]; exact hl) hnews (by omega) (by omega) (by rw [hz2]; exact growslice_fits (by omega) (by omega))
      refine hfin _ _ hr (RowC.of_own ?_ (by omega)) ⟨rfl, rfl, rfl, by simp, fun k hk _ => heap_alloc_old w.drew _ hk⟩
      have hge := grownCap_ge w (c0 + m) c0 5
      refine ⟨by rw [List.length_map, List.length_append, hyn, hb.1]; omega, .inr ⟨w.heap.size, _, _, rfl, hbase, heap_alloc_new w.drew _, hge, grownCap_le_maxLen w _ _ _ (by unfold maxLen; omega), ?_, ?_⟩⟩
      · have hz1 : (Value.int IntKind.u8 0).cells.size = 1 := rfl
        simp only [Array.size_append, List.size_toArray, size_zeroCells, hz1, hl, List.length_map, hyn]
        omega
      · rw [List.map_append]
        simp only [Array.toList_append, List.append_assoc]
        rw [← List.append_assoc]
        have hll : (c0 + m) * 1 = (ys.map (Value.int .u8) ++ xs.map (Value.int .u8)).length := by rw [List.length_append, hl, List.length_map, hyn]; omega
        rw [hll]
        exact List.take_left
    · obtain ⟨v', w', hr, h2, h3, _⟩ := run_append_own (P := Tryz.prog) w B t o.type 5 i0 (.int .u8 0) 1 1 ht hi hz0 hz1 hz2 rfl (by omega) _ n _ hown ⟨b, off, none⟩ m c (xs.map (Value.int .u8)) hl hnews h1 (by unfold maxLen; omega) (by omega) hbase
      rw [← List.map_append] at h2
      exact hfin _ _ hr (RowC.of_own h2 (by omega)) h3
theorem RowC.block {B : Nat} {w : World} {v : Value} {n : Nat} {xs : List Int} (h : RowC B w v n xs) : ∀ q, v.ownBlock = some q → B ≤ q := by
  obtain ⟨g, c, rfl, h0, _⟩ := h
  intro q hq
  have : g = q := by simpa [Value.ownBlock] using hq
  omega
theorem two_rows {W w3 w5 : World} {O O' : Obj} {v v3 : Value} {n m : Nat} {xs ys : List Int} (hW : 0 < W.heap.size) (h26 : RowC W.heap.size (W.alloc O) v n xs) (h3 : (W.alloc O).grownBy w3 v.ownBlock) (h4 : RowC W.heap.size w3 v3 m ys) (h5 : (w3.alloc O').grownBy w5 v3.ownBlock) : Below W.heap.size W w5 := by
  have a1 := ((Below.refl W.heap.size W).alloc (Nat.le_refl _) O).grown h3 (by simp) h26.block
  exact (a1.alloc a1.size O').grown h5 (by have := a1.size; simp; omega) h4.block
theorem one_row {W w3 : World} {O : Obj} {v : Value} {n : Nat} {xs : List Int} (h26 : RowC W.heap.size (W.alloc O) v n xs) (h3 : (W.alloc O).grownBy w3 v.ownBlock) : Below W.heap.size W w3 :=
  ((Below.refl W.heap.size W).alloc (Nat.le_refl _) O).grown h3 (by simp) h26.block
theorem bytes_around {xs : List Int} (h : Bytes xs) : Bytes (([40] ++ xs) ++ [41]) := by
  intro x hx
  rcases List.mem_append.1 hx with hx | hx
  · rcases List.mem_append.1 hx with hx | hx
    · rw [List.mem_singleton] at hx; omega
    · exact h x hx
  · rw [List.mem_singleton] at hx; omega
theorem bytes_decl {xs : List Int} (h : Bytes xs) : Bytes ([101, 120, 110, 32, 69, 59, 101, 120, 110, 32, 69, 59, 32] ++ xs) := by
  intro x hx
  rcases List.mem_append.1 hx with hx | hx
  · have : ∀ y ∈ ([101, 120, 110, 32, 69, 59, 101, 120, 110, 32, 69, 59, 32] : List Int), 0 ≤ y ∧ y ≤ 255 := by decide
    exact this x hx
  · exact h x hx
theorem bytes_41 : Bytes [41] := fun x hx => by rw [List.mem_singleton] at hx; omega
theorem lit_bytes (W : World) (ys : List Int) (hy : ys.length ≤ 1000) (hb : Bytes ys) : BytesIn (W.alloc (.cells (ys.map (Value.int .u8)).toArray 5)) (some ⟨W.heap.size, 0, none⟩) ys.length ys.length ys :=
  ⟨rfl, Nat.le_refl _, by unfold maxLen; omega, bytes_alloc W 5 ys, hb⟩
theorem prog_texts {es : List Tok} {w : World} {B : Nat} {q : Option Addr} {m d : Nat} (h : w.ownsRow B 45 3 (.slice q m d) es.length (tcells es)) (h2 : es.length = 2) : ∃ g, q = some ⟨g, 0, none⟩ ∧ m = 2 ∧ w.cell? ⟨g, 5, none⟩ = some (.int .i64 (tel es 1).a) := by
  have h' := h
  rcases h.2 with ⟨_, h1⟩ | ⟨g, cap, cur, e, h1⟩
  · omega
  · injection e with e1 e2 e3
    subst e1 e2 e3
    refine ⟨g, rfl, h2, ?_⟩
    rw [World.ownsRow.cellAt h' 5 (by omega)]
    match es, h2 with
    | [e1, e2], _ => rfl

set_option maxRecDepth 100000 in
set_option maxHeartbeats 25600000 in
theorem parseBrackets_walk (p : Option Addr) (n d : Nat) (xs : List Int) (w : World) (hb : BytesIn w p n d xs) (hl : Words.Laid2 w) :
    Calls Tryz.prog 4 #[.slice p n d] w fun e w' => e = .returned (.bool true) ∧ Below w.heap.size w w' := by
  have hn := hb.len.1
  have haw := fun W (hb : Below w.heap.size w W) => awake_walk W (hl.below hb)
  have HB := Lib.hid hb; have HL := Lib.hid hl; have HAW := Lib.hid haw
  clear hb hl haw
  by_cases hbig : 2000 < n
  · have hbi : (2000 : Int) < (n : Int) := by omega
    clear hbig
    go_enter Tryz.func4, Tryz.ntmps4
    go_wp2_with (fail)
    refine (HAW.out _ (Below.refl _ _)).mono ?_
    rintro e w1 ⟨rfl, hb⟩
    have HB1 := Lib.hid hb; clear hb
    go_wp2_with (fail)
    go_ret
    exact ⟨rfl, HB1.out⟩
  have hni : ¬ (2000 : Int) < (n : Int) := by omega
  have hxl : xs.length ≤ 2000 := by rw [HB.out.1]; omega
  have HXL := Lib.hid hxl
  have hpa := parseTerm_walk p n d xs w HB.out HL.out (by omega)
  have HPA := Lib.hid hpa
  clear hpa hbig hxl
  go_enter Tryz.func4, Tryz.ntmps4
  go_wp2_with (fail)
  refine HPA.out.mono ?_
  rintro e w1 h1
  obtain ⟨hb1, k1, op1, pl1, nn1, nm1, ar1, ex1, q1, l1, d1, a1, f1, rfl, hr1⟩ := term_tuple h1
  have HB1 := Lib.hid hb1; have HR1 := Lib.hid hr1
  have hC : Below w.heap.size w (w1.alloc (.cells #[.int .u8 k1, .int .u8 op1, .int .i64 pl1, .int .i64 nn1, .string nm1, .string ar1, .string ex1, .slice q1 l1 d1] 29)) := hb1.alloc hb1.size _
  have HC := Lib.hid hC
  clear h1 hb1 hr1 hC HPA
  have hz1 : w1.heap.size + 1 = (w1.alloc (.cells #[.int .u8 k1, .int .u8 op1, .int .i64 pl1, .int .i64 nn1, .string nm1, .string ar1, .string ex1, .slice q1 l1 d1] 29)).heap.size := by simp
  have HZ1 := Lib.hid hz1
  have hcv := Joins.run_convert_bytes_const_at (P := Tryz.prog) (w1.alloc (.cells #[.int .u8 k1, .int .u8 op1, .int .i64 pl1, .int .i64 nn1, .string nm1, .string ar1, .string ex1, .slice q1 l1 d1] 29)) 22 5 #[.int .u8 40] 1 1 (w1.heap.size + 1) (by simp) Tryz.underlying22 Tryz.underlying5
  have h26 : RowC (w1.heap.size + 1) ((w1.alloc (.cells #[.int .u8 k1, .int .u8 op1, .int .i64 pl1, .int .i64 nn1, .string nm1, .string ar1, .string ex1, .slice q1 l1 d1] 29)).alloc (.cells #[.int .u8 40] 5 (1, 2))) (.slice (some ⟨w1.heap.size + 1, 0, none⟩) 1 1) 1 [40] := by
    have := RowC.lit (B := w1.heap.size + 1) (w1.alloc (.cells #[.int .u8 k1, .int .u8 op1, .int .i64 pl1, .int .i64 nn1, .string nm1, .string ar1, .string ex1, .slice q1 l1 d1] 29)) [40] (by simp) (by decide) (1, 2)
    rw [show (w1.alloc (.cells #[.int .u8 k1, .int .u8 op1, .int .i64 pl1, .int .i64 nn1, .string nm1, .string ar1, .string ex1, .slice q1 l1 d1] 29)).heap.size = w1.heap.size + 1 from by simp] at this
    exact this
  have H26 := Lib.hid h26
  have hni' : n ≤ 2000 := by omega
  have HNI := Lib.hid hni'
  clear hz1 h26 hni'
  go_wp2_with (at_builtin; first | (refine append_text rfl (.tmp 24) (.tmp 25) 22 rfl (w1.heap.size + 1) Tryz.underlying22 _ 1 [40] rfl H26.out p n d xs rfl (HB.out.below (HC.out.alloc (by have := HC.out.size; simpa using this) _)) (by have := HNI.out; omega) (by omega) (by simp) ?_; intro v3 w3 hown3 hgrow3; have HO3 := Lib.hid hown3; have HG3 := Lib.hid hgrow3; clear hown3 hgrow3) | (go_loud (refine append_text rfl (.tmp 26) (.tmp 27) 22 rfl (w1.heap.size + 1) Tryz.underlying22 _ (1 + n) ([40] ++ xs) rfl (HO3.out.alloc _) (some ⟨w3.heap.size, 0, none⟩) 1 1 [41] rfl (lit_bytes w3 [41] (by decide) bytes_41) (by have := HNI.out; omega) (by omega) (by have := HG3.out.size; simp at this ⊢; omega) ?_); intro v5 w5 hown5 hgrow5; have HO5 := Lib.hid hown5; have HG5 := Lib.hid hgrow5; obtain ⟨g5, c5, rfl, hb5⟩ := HO5.out.bytes (bytes_around HB.out.2.2.2.2); have HB5 := Lib.hid hb5; clear hown5 hgrow5 hb5))
  have hz1 : (w1.alloc (.cells #[.int .u8 k1, .int .u8 op1, .int .i64 pl1, .int .i64 nn1, .string nm1, .string ar1, .string ex1, .slice q1 l1 d1] 29)).heap.size = w1.heap.size + 1 := by simp
  have hb5' : Below (w1.alloc (.cells #[.int .u8 k1, .int .u8 op1, .int .i64 pl1, .int .i64 nn1, .string nm1, .string ar1, .string ex1, .slice q1 l1 d1] 29)).heap.size (w1.alloc (.cells #[.int .u8 k1, .int .u8 op1, .int .i64 pl1, .int .i64 nn1, .string nm1, .string ar1, .string ex1, .slice q1 l1 d1] 29)) w5 := two_rows (v := .slice (some ⟨w1.heap.size + 1, 0, none⟩) 1 1) (by simp) (by rw [hz1]; exact H26.out) HG3.out (by rw [hz1]; exact HO3.out) HG5.out
  have hx1 : w5.heap[w1.heap.size]? = some (.cells #[.int .u8 k1, .int .u8 op1, .int .i64 pl1, .int .i64 nn1, .string nm1, .string ar1, .string ex1, .slice q1 l1 d1] 29 (0, 0)) := (hb5'.block _ (by simp)).trans (heap_alloc_new w1 _)
  have hc5 : Below w.heap.size w w5 := HC.out.trans (hb5'.mono HC.out.size)
  have hw15 : Below w1.heap.size w1 w5 := ((Below.refl _ _).alloc (Nat.le_refl _) _).trans (hb5'.mono (by simp))
  have hpa := parseTerm_walk (some ⟨g5, 0, none⟩) (1 + n + 1) c5 (([40] ++ xs) ++ [41]) w5 HB5.out (HL.out.below hc5) (by rw [HB5.out.1]; have := HNI.out; omega)
  have HX1 := Lib.hid hx1; have HC5 := Lib.hid hc5; have HW15 := Lib.hid hw15; have HPA := Lib.hid hpa
  clear hz1 hb5' hx1 hc5 hw15 hpa HG3 HG5 HO3 HO5 H26 HB5 hcv
  refine HPA.out.mono ?_
  rintro e w6 h6
  obtain ⟨hb6, k2, op2, pl2, nn2, nm2, ar2, ex2, q2, l2, d2, a2, f2, rfl, hr2⟩ := term_tuple h6
  have HR2 := Lib.hid hr2; have HB6 := Lib.hid hb6
  have hx1 := (hb6.block _ (lt_of_block HX1.out)).trans HX1.out
  have hc6 := HC5.out.trans (hb6.mono HC5.out.size)
  have hw16 := HW15.out.trans (hb6.mono HW15.out.size)
  have hcv := Joins.run_convert_bytes_const_at (P := Tryz.prog) (w6.alloc (.cells #[.int .u8 k2, .int .u8 op2, .int .i64 pl2, .int .i64 nn2, .string nm2, .string ar2, .string ex2, .slice q2 l2 d2] 29)) 22 5 #[.int .u8 101, .int .u8 120, .int .u8 110, .int .u8 32, .int .u8 69, .int .u8 59, .int .u8 101, .int .u8 120, .int .u8 110, .int .u8 32, .int .u8 69, .int .u8 59, .int .u8 32] 13 13 (w6.heap.size + 1) (by simp) Tryz.underlying22 Tryz.underlying5
  have h26 : RowC (w6.heap.size + 1) ((w6.alloc (.cells #[.int .u8 k2, .int .u8 op2, .int .i64 pl2, .int .i64 nn2, .string nm2, .string ar2, .string ex2, .slice q2 l2 d2] 29)).alloc (.cells #[.int .u8 101, .int .u8 120, .int .u8 110, .int .u8 32, .int .u8 69, .int .u8 59, .int .u8 101, .int .u8 120, .int .u8 110, .int .u8 32, .int .u8 69, .int .u8 59, .int .u8 32] 5 (13, 14))) (.slice (some ⟨w6.heap.size + 1, 0, none⟩) 13 13) 13 [101, 120, 110, 32, 69, 59, 101, 120, 110, 32, 69, 59, 32] := by
    have := RowC.lit (B := w6.heap.size + 1) (w6.alloc (.cells #[.int .u8 k2, .int .u8 op2, .int .i64 pl2, .int .i64 nn2, .string nm2, .string ar2, .string ex2, .slice q2 l2 d2] 29)) [101, 120, 110, 32, 69, 59, 101, 120, 110, 32, 69, 59, 32] (by simp) (by decide) (13, 14)
    rw [show (w6.alloc (.cells #[.int .u8 k2, .int .u8 op2, .int .i64 pl2, .int .i64 nn2, .string nm2, .string ar2, .string ex2, .slice q2 l2 d2] 29)).heap.size = w6.heap.size + 1 from by simp] at this
    exact this
  have HX1 := Lib.hid hx1; have HC6 := Lib.hid hc6; have HW16 := Lib.hid hw16; have H26 := Lib.hid h26
  clear h6 hb6 hr2 hx1 hc6 hw16 h26 HPA HW15
  go_wp2_with (at_builtin; go_loud (refine append_text rfl (.tmp 35) (.tmp 36) 22 rfl (w6.heap.size + 1) Tryz.underlying22 _ 13 [101, 120, 110, 32, 69, 59, 101, 120, 110, 32, 69, 59, 32] rfl H26.out p n d xs rfl (HB.out.below ((HC6.out.alloc HC6.out.size _).alloc (by have := HC6.out.size; simp; omega) _)) (by have := HNI.out; omega) (by omega) (by simp) ?_); intro v7 w7 hown7 hgrow7; have HO7 := Lib.hid hown7; have HG7 := Lib.hid hgrow7; obtain ⟨g7, c7, rfl, hb7⟩ := HO7.out.bytes (bytes_decl HB.out.2.2.2.2); have HB7 := Lib.hid hb7; clear hown7 hgrow7 hb7)
  have hz6 : (w6.alloc (.cells #[.int .u8 k2, .int .u8 op2, .int .i64 pl2, .int .i64 nn2, .string nm2, .string ar2, .string ex2, .slice q2 l2 d2] 29)).heap.size = w6.heap.size + 1 := by simp
  have hb7' : Below (w6.alloc (.cells #[.int .u8 k2, .int .u8 op2, .int .i64 pl2, .int .i64 nn2, .string nm2, .string ar2, .string ex2, .slice q2 l2 d2] 29)).heap.size (w6.alloc (.cells #[.int .u8 k2, .int .u8 op2, .int .i64 pl2, .int .i64 nn2, .string nm2, .string ar2, .string ex2, .slice q2 l2 d2] 29)) w7 := one_row (v := .slice (some ⟨w6.heap.size + 1, 0, none⟩) 13 13) (by rw [hz6]; exact H26.out) HG7.out
  have hx2 : w7.heap[w6.heap.size]? = some (.cells #[.int .u8 k2, .int .u8 op2, .int .i64 pl2, .int .i64 nn2, .string nm2, .string ar2, .string ex2, .slice q2 l2 d2] 29 (0, 0)) := (hb7'.block _ (by simp)).trans (heap_alloc_new w6 _)
  have hw67 : Below w6.heap.size w6 w7 := ((Below.refl _ _).alloc (Nat.le_refl _) _).trans (hb7'.mono (by simp))
  have hc7 : Below w.heap.size w w7 := HC6.out.trans (hw67.mono HC6.out.size)
  have hx1 := (hw67.block _ (lt_of_block HX1.out)).trans HX1.out
  have hpp := parseProg_mid (some ⟨g7, 0, none⟩) (13 + n) c7 (declX xs) w7 HB7.out (HL.out.below hc7) (by unfold declX; have := HXL.out; simp; omega) (few_toks (by unfold declX; have := HXL.out; simp; omega))
  have HX2 := Lib.hid hx2; have HX1 := Lib.hid hx1; have HC7 := Lib.hid hc7; have HW67 := Lib.hid hw67; have HPP := Lib.hid hpp
  clear hz6 hb7' hx2 hx1 hc7 hw67 hpp HG7 HO7 H26 HB7 hcv
  refine HPP.out.mono ?_
  rintro e w8 h8
  obtain ⟨hb8, qe, me, de, k3, op3, pl3, nn3, nm3, ar3, ex3, q3, l3, d3, a3, f3, rfl, hr3⟩ := prog_tuple h8 (few_toks (by unfold declX; have := HXL.out; simp; omega)) (by unfold declX; have := HXL.out; simp; omega)
  have HR3 := Lib.hid hr3
  have hx1 := (hb8.block _ (lt_of_block HX1.out)).trans HX1.out
  have hx2 := (hb8.block _ (lt_of_block HX2.out)).trans HX2.out
  have hc8 := HC7.out.trans (hb8.mono HC7.out.size)
  have hw68 := HW67.out.trans (hb8.mono HW67.out.size)
  have hw18 := HW16.out.trans (hw68.mono HW16.out.size)
  have HX1 := Lib.hid hx1; have HX2 := Lib.hid hx2; have HC8 := Lib.hid hc8; have HW68 := Lib.hid hw68; have HW18 := Lib.hid hw18
  clear h8 hb8 hr3 hx1 hx2 hc8 hw68 hw18 HPP HW16 HW67
  by_cases hf : f1 = 0
  · subst hf
    obtain ⟨t, ht, hT1⟩ := (HR1.out.resolve_left (fun h => h.1 rfl)).2
    obtain ⟨u, hu, hsu⟩ := brackets_res ht HXL.out
    obtain ⟨e1, e2, u3, hd, hsu3, _, _, _, hae⟩ := decl_res ht HXL.out
    obtain ⟨rfl, t2, ht2, hT2⟩ := HR2.out.resolve_left (fun h => h.2 u hu)
    obtain ⟨rfl, es, t3, ht3, hO3, hT3⟩ := HR3.out.resolve_left (fun h => h.2 _ _ hd)
    obtain rfl : u = t2 := by
      have h1 : termRes (([40] ++ xs) ++ [41]) = .good u := hu
      rw [h1] at ht2
      injection ht2
    obtain ⟨rfl, rfl⟩ : [e1, e2] = es ∧ u3 = t3 := by
      rw [hd] at ht3
      injection ht3 with h1 h2
      exact ⟨h1, h2⟩
    obtain ⟨g3, rfl, rfl, hat⟩ := prog_texts hO3 rfl
    have hat' : w8.cell? ⟨g3, 5, none⟩ = some (.int .i64 10) := by rw [hat]; show some (Value.int .i64 (e2.a : Int)) = _; rw [hae]; rfl
    have hgl := World.block_lt_of_cell? w8 _ hat'
    have hal : Below w8.heap.size w8 (w8.alloc (.cells #[.slice (some ⟨g3, 0, none⟩) 2 de, .int .u8 k3, .int .u8 op3, .int .i64 pl3, .int .i64 nn3, .string nm3, .string ar3, .string ex3, .slice q3 l3 d3] 31)) := (Below.refl _ _).alloc (Nat.le_refl _) _
    have hx1 := (hal.block _ (lt_of_block HX1.out)).trans HX1.out
    have hx2 := (hal.block _ (lt_of_block HX2.out)).trans HX2.out
    have hx3 : (w8.alloc (.cells #[.slice (some ⟨g3, 0, none⟩) 2 de, .int .u8 k3, .int .u8 op3, .int .i64 pl3, .int .i64 nn3, .string nm3, .string ar3, .string ex3, .slice q3 l3 d3] 31)).heap[w8.heap.size]? = some (.cells #[.slice (some ⟨g3, 0, none⟩) 2 de, .int .u8 k3, .int .u8 op3, .int .i64 pl3, .int .i64 nn3, .string nm3, .string ar3, .string ex3, .slice q3 l3 d3] 31 (0, 0)) := heap_alloc_new w8 _
    have ha3 := (hal.cell (p := ⟨g3, 5, none⟩) hgl).trans hat'
    have hs1 := fun W (hb : Below (w8.alloc (.cells #[.slice (some ⟨g3, 0, none⟩) 2 de, .int .u8 k3, .int .u8 op3, .int .i64 pl3, .int .i64 nn3, .string nm3, .string ar3, .string ex3, .slice q3 l3 d3] 31)).heap.size (w8.alloc (.cells #[.slice (some ⟨g3, 0, none⟩) 2 de, .int .u8 k3, .int .u8 op3, .int .i64 pl3, .int .i64 nn3, .string nm3, .string ar3, .string ex3, .slice q3 l3 d3] 31)) W) => Term.refSame_walk (Term.wt t) t u _ _ _ _ _ _ _ _ W (Nat.le_refl _) (((hT1.below HW18.out).below hal).below hb) (((hT2.below HW68.out).below hal).below hb)
    have hs2 := fun W (hb : Below (w8.alloc (.cells #[.slice (some ⟨g3, 0, none⟩) 2 de, .int .u8 k3, .int .u8 op3, .int .i64 pl3, .int .i64 nn3, .string nm3, .string ar3, .string ex3, .slice q3 l3 d3] 31)).heap.size (w8.alloc (.cells #[.slice (some ⟨g3, 0, none⟩) 2 de, .int .u8 k3, .int .u8 op3, .int .i64 pl3, .int .i64 nn3, .string nm3, .string ar3, .string ex3, .slice q3 l3 d3] 31)) W) => Term.refSame_walk (Term.wt t) t u3 _ _ _ _ _ _ _ _ W (Nat.le_refl _) (((hT1.below HW18.out).below hal).below hb) ((hT3.below hal).below hb)
    rw [hsu] at hs1
    rw [hsu3] at hs2
    have hX : ∀ W, Below (w8.alloc (.cells #[.slice (some ⟨g3, 0, none⟩) 2 de, .int .u8 k3, .int .u8 op3, .int .i64 pl3, .int .i64 nn3, .string nm3, .string ar3, .string ex3, .slice q3 l3 d3] 31)).heap.size (w8.alloc (.cells #[.slice (some ⟨g3, 0, none⟩) 2 de, .int .u8 k3, .int .u8 op3, .int .i64 pl3, .int .i64 nn3, .string nm3, .string ar3, .string ex3, .slice q3 l3 d3] 31)) W → W.heap[w1.heap.size]? = (w8.alloc (.cells #[.slice (some ⟨g3, 0, none⟩) 2 de, .int .u8 k3, .int .u8 op3, .int .i64 pl3, .int .i64 nn3, .string nm3, .string ar3, .string ex3, .slice q3 l3 d3] 31)).heap[w1.heap.size]? ∧ W.heap[w6.heap.size]? = (w8.alloc (.cells #[.slice (some ⟨g3, 0, none⟩) 2 de, .int .u8 k3, .int .u8 op3, .int .i64 pl3, .int .i64 nn3, .string nm3, .string ar3, .string ex3, .slice q3 l3 d3] 31)).heap[w6.heap.size]? ∧ W.heap[w8.heap.size]? = (w8.alloc (.cells #[.slice (some ⟨g3, 0, none⟩) 2 de, .int .u8 k3, .int .u8 op3, .int .i64 pl3, .int .i64 nn3, .string nm3, .string ar3, .string ex3, .slice q3 l3 d3] 31)).heap[w8.heap.size]? ∧ W.cell? ⟨g3, 5, none⟩ = (w8.alloc (.cells #[.slice (some ⟨g3, 0, none⟩) 2 de, .int .u8 k3, .int .u8 op3, .int .i64 pl3, .int .i64 nn3, .string nm3, .string ar3, .string ex3, .slice q3 l3 d3] 31)).cell? ⟨g3, 5, none⟩ :=
      fun W hb => ⟨hb.block _ (lt_of_block hx1), hb.block _ (lt_of_block hx2), hb.block _ (lt_of_block hx3), hb.cell (World.block_lt_of_cell? _ _ ha3)⟩
    have hc9 := HC8.out.alloc HC8.out.size (.cells #[.slice (some ⟨g3, 0, none⟩) 2 de, .int .u8 k3, .int .u8 op3, .int .i64 pl3, .int .i64 nn3, .string nm3, .string ar3, .string ex3, .slice q3 l3 d3] 31)
    have HX := Lib.hid hX; have HX1 := Lib.hid hx1; have HX2 := Lib.hid hx2; have HX3 := Lib.hid hx3; have HA3 := Lib.hid ha3; have HS1 := Lib.hid hs1; have HS2 := Lib.hid hs2; have HC9 := Lib.hid hc9
    clear HR1 HR2 HR3 ht hT1 hu hsu hd hsu3 hae hT2 hT3 ht2 ht3 hO3 hat hat' hgl hal hx1 hx2 hx3 ha3 hs1 hs2 hX hc9
    obtain ⟨⟨b0, b1, b2, b3, b4, b5, b6, b7⟩, f0, f1, f2, f3, f4, f5, f6, f7⟩ := cells8' HX1.out
    obtain ⟨⟨r0, r1, r2, r3, r4, r5, r6, r7⟩, s0, s1, s2, s3, s4, s5, s6, s7⟩ := cells8' HX2.out
    have bl1 := World.block_lt_of_cell? _ _ b0
    have bl2 := World.block_lt_of_cell? _ _ r0
    go_wp2_with (fail)
    refine (HS1.out _ (Below.refl _ _)).mono ?_
    rintro e w9 ⟨rfl, hb9⟩
    obtain ⟨y1, y2, y3, y4⟩ := HX.out _ hb9
    clear b0 b1 b2 b3 b4 b5 b6 b7 f0 f1 f2 f3 f4 f5 f6 f7 r0 r1 r2 r3 r4 r5 r6 r7 s0 s1 s2 s3 s4 s5 s6 s7 bl1 bl2
    obtain ⟨⟨b0, b1, b2, b3, b4, b5, b6, b7⟩, f0, f1, f2, f3, f4, f5, f6, f7⟩ := cells8' (y1.trans HX1.out)
    obtain ⟨⟨r0, r1, r2, r3, r4, r5, r6, r7, r8⟩, s0, s1, s2, s3, s4, s5, s6, s7, s8⟩ := cells9' (y3.trans HX3.out)
    have bl1 := World.block_lt_of_cell? _ _ b0
    have bl2 := World.block_lt_of_cell? _ _ r0
    have HB9 := Lib.hid hb9
    clear hb9 y1 y2 y3 y4
    go_wp2_with (fail)
    refine (HS2.out _ HB9.out).mono ?_
    rintro e w10 ⟨rfl, hb10⟩
    have hb10' := HB9.out.trans (hb10.mono HB9.out.size)
    obtain ⟨y1, y2, y3, y4⟩ := HX.out _ hb10'
    clear b0 b1 b2 b3 b4 b5 b6 b7 f0 f1 f2 f3 f4 f5 f6 f7 r0 r1 r2 r3 r4 r5 r6 r7 r8 s0 s1 s2 s3 s4 s5 s6 s7 s8 bl1 bl2
    obtain ⟨⟨r0, r1, r2, r3, r4, r5, r6, r7, r8⟩, s0, s1, s2, s3, s4, s5, s6, s7, s8⟩ := cells9' (y3.trans HX3.out)
    have bl2 := World.block_lt_of_cell? _ _ r0
    have a5 := y4.trans HA3.out
    have HB10 := Lib.hid hb10'
    clear hb10 hb10' y1 y2 y3 y4
    go_wp2_with (fail)
    refine (HAW.out _ (HC9.out.trans (HB10.out.mono HC9.out.size))).mono ?_
    rintro e w11 ⟨rfl, hb11⟩
    have HB11 := Lib.hid ((HC9.out.trans (HB10.out.mono HC9.out.size)).trans (hb11.mono (HC9.out.trans (HB10.out.mono HC9.out.size)).size)); clear hb11
    go_wp2_with (fail)
    go_ret
    exact ⟨rfl, HB11.out⟩
  · have HC9 := Lib.hid (HC8.out.alloc HC8.out.size (.cells #[.slice qe me de, .int .u8 k3, .int .u8 op3, .int .i64 pl3, .int .i64 nn3, .string nm3, .string ar3, .string ex3, .slice q3 l3 d3] 31))
    clear HR1 HR2 HR3
    have hfb : (f1 != 0) = true := by simpa using hf
    go_wp2_with (fail)
    refine (HAW.out _ HC9.out).mono ?_
    rintro e w9 ⟨rfl, hb9⟩
    have HB9 := Lib.hid (HC9.out.trans (hb9.mono HC9.out.size)); clear hb9
    go_wp2_with (fail)
    go_ret
    exact ⟨rfl, HB9.out⟩
end Parse
end Go.Proofs.YtkcadkjpneoobaaGreatDoor
