/-The document's parser: signs of a level. The document's parser: the tightest level. The document's parser: how it begins. -/
import Derived.Test.YtadpjkehflokcaaGreatDoorGParseQ
import Derived.Test.YtadpjkehflokcaaGreatDoorGParseH
import Derived.Test.YtadpjkehflokcaaGreatDoorGTokB
namespace Go.Proofs.YtadpjkehflokcaaGreatDoor
open Go.RowKit
set_option linter.unusedVariables false
set_option linter.unusedSimpArgs false
namespace Parse
open Token (Tok tel ToksAt)
open Term (Tm Hd TmIs Flat tcells veil Reads)

def DLevel (F : St → Option (St × Tm)) (k : Nat) (g n c : Nat) (ts : List Tok) : Prop := ∀ (w : World) (s : St) (R : St × Tm), RowAt w g n c ts → s.i < n → F s = some R →
  Calls Tryz.prog 49 #[.agg #[.slice (some ⟨g, 0, none⟩) n c, .int .i64 s.i, .bool s.bad], .int .i64 (k : Int)] w (DEnd g n c R w)
theorem wp_storeI (ps : String) (ty : TypeId) (af : Array Edge) (a : Act) (w : World) (K : Act → World → Prop) (Q : Exit → Act → World → Prop) (N : Nat) (x y : Nat) (i : Int) (c0 c1 c2 : Value)
    (hx : a.tmps[x]?.getD undef = .pointer (some ⟨N, 1, none⟩)) (hy : a.tmps[y]?.getD undef = .int .i64 i) (hc : w.heap[N]? = some (.cells #[c0, c1, c2] 56 (0, 0)))
    (h : K a (w.setCell ⟨N, 1, none⟩ (.int .i64 i))) :
    Oper.wp Tryz.prog { dst := none, op := .store 3 (.tmp x) (.tmp y), type := ty, pos := ps, after := af, guard := none } a w K Q := by
  obtain ⟨⟨q0, q1, q2⟩, e0, e1, e2⟩ := cells3 hc
  have ql := lt_of_block hc
  clear hc
  go_simp
  exact h
/-- The next token's place is stored. -/
theorem wpList_stI {w : World} {ops : Array Oper} {rest : List Oper} {a : Act} {Q : Exit → Act → World → Prop} {ps : String} {ty : TypeId} {af : Array Edge} (N x y : Nat) (i : Int) (c0 c1 c2 : Value)
    (hx : a.tmps[x]?.getD undef = .pointer (some ⟨N, 1, none⟩)) (hy : a.tmps[y]?.getD undef = .int .i64 i) (hc : w.heap[N]? = some (.cells #[c0, c1, c2] 56 (0, 0)))
    (h : ∀ W', Put1 N #[c0, .int .i64 i, c2] 56 w W' → wpList Tryz.prog ops Q rest a W') :
    wpList Tryz.prog ops Q ({ dst := none, op := .store 3 (.tmp x) (.tmp y), type := ty, pos := ps, after := af, guard := none } :: rest) a w :=
  wpList_plain rfl fun K hK => wp_storeI _ _ _ _ _ _ _ N x y i c0 c1 c2 hx hy hc (hK _ _ (h _ ⟨rfl, rfl, rfl, by simp [World.setCell], by
    have h0 := set_block (j := 1) (v := .int .i64 i) hc
    rw [show (#[c0, c1, c2] : Array Value).setIfInBounds 1 (.int .i64 i) = #[c0, .int .i64 i, c2] from rfl] at h0
    exact h0, fun k hk => Below.heap_setCell _ _ _ _ hk⟩))
/-- Two terms become one, by a sign. -/
theorem ap_put {w : World} {g n c N : Nat} {s : St} {h h' : Hd} {q q' : Option Addr} {l d l' d' : Nat} {t u : Tm} {wc W4 W5 : World} {x : ByteArray} {b : Nat} (k : ApI w g n c N s h q l d t wc) (hU : TmIs (vl (w.heap.size + 3) N wc) h' q' l' d' u) (hb : wc.heap.size ≤ b)
    (hx : W4.heap[b]? = some (.cells (tcells h q l d ++ tcells h' q' l' d').toArray 29 (0, 0))) (bw : Below wc.heap.size wc W4)
    (pd : Put1 N #[.int .u8 (opK x), .int .u8 (opO x), .int .i64 h.pl, .int .i64 0, .string ⟨#[]⟩, .string ⟨#[]⟩, .string ⟨#[]⟩, .slice (some ⟨b, 0, none⟩) 2 2] 29 W4 W5) :
    ApI w g n c N s ⟨opK x, opO x, h.pl, 0, ⟨#[]⟩, ⟨#[]⟩, ⟨#[]⟩⟩ (some ⟨b, 0, none⟩) 2 2 (putF x t u) W5 := by
  have hN := lt_of_block k.b4
  have k4 := k.call bw
  obtain ⟨o1, o2, o3, o4⟩ := opB x
  have htm := tm_row (V := fun i => decide (w.heap.size + 3 ≤ i ∧ i ≠ N)) (h := ⟨opK x, opO x, h.pl, 0, ⟨#[]⟩, ⟨#[]⟩, ⟨#[]⟩⟩) (decide_eq_true ⟨by have := k.n4; omega, by omega⟩) hx ((Flat.one k4.tm).append (Flat.one (hU.reads' (vl_to fun b hb' _ _ => bw.block b hb')))) (hd_join ⟨o1, o2⟩ ⟨o3, o4⟩ k.tm.ok.pl) (by unfold maxLen; show (2 : Nat) ≤ _; omega)
  have e : putF x t u = .node ⟨opK x, opO x, h.pl, 0, ⟨#[]⟩, ⟨#[]⟩, ⟨#[]⟩⟩ [t, u] := by unfold putF; rw [k.tm.head]
  rw [e]
  exact k4.term htm pd

set_option maxRecDepth 100000 in
set_option maxHeartbeats 102400000 in
theorem levelD_walk (g n c : Nat) (ts : List Tok) (m k : Nat) (hk : k < 4) (hL : ∀ j, j ≤ m → DLevel (levelF ts j (k + 1)) (k + 1) g n c ts) : DLevel (levelF ts (m + 1) k) k g n c ts := by
  intro w s R hR hs hF
  have hF' : (levelF ts m (k + 1) s).bind (fun r => loopF ts m k r.1 r.2) = some R := by
    have : levelF ts (m + 1) k s = if k = 4 then applyF ts m s else (levelF ts m (k + 1) s).bind (fun r => loopF ts m k r.1 r.2) := rfl
    rw [this, if_neg (by omega)] at hF
    exact hF
  obtain ⟨r, hr, hlo⟩ := Option.bind_eq_some_iff.1 hF'
  have hlt := fun j (s : St) (r : St × Tm) (hs : s.i < n) (he : levelF ts j (k + 1) s = some r) => by
    have := (lt_all ts hR.row j).2.2.1 (k + 1) s r (by rw [hR.len]; exact hs) he
    rw [hR.len] at this
    exact this
  have h3 : Below w.heap.size w (((w.alloc (.cells #[.slice (some ⟨g, 0, none⟩) n c, .int .i64 s.i, .bool s.bad] 56)).alloc (.cells #[.slice none 0 0, .int .i64 0, .bool false] 56)).alloc (.cells #[.int .u8 0, .int .u8 0, .int .i64 0, .int .i64 0, .string ⟨#[]⟩, .string ⟨#[]⟩, .string ⟨#[]⟩, .slice none 0 0] 29)) := (((Below.refl _ _).alloc (Nat.le_refl _) _).alloc (by simp) _).alloc (by simp; omega) _
  have z3 : (((w.alloc (.cells #[.slice (some ⟨g, 0, none⟩) n c, .int .i64 s.i, .bool s.bad] 56)).alloc (.cells #[.slice none 0 0, .int .i64 0, .bool false] 56)).alloc (.cells #[.int .u8 0, .int .u8 0, .int .i64 0, .int .i64 0, .string ⟨#[]⟩, .string ⟨#[]⟩, .string ⟨#[]⟩, .slice none 0 0] 29)).heap.size = w.heap.size + 3 := by simp
  have z2 : ((w.alloc (.cells #[.slice (some ⟨g, 0, none⟩) n c, .int .i64 s.i, .bool s.bad] 56)).alloc (.cells #[.slice none 0 0, .int .i64 0, .bool false] 56)).heap.size = w.heap.size + 1 + 1 := by simp
  have z1 : (w.alloc (.cells #[.slice (some ⟨g, 0, none⟩) n c, .int .i64 s.i, .bool s.bad] 56)).heap.size = w.heap.size + 1 := by simp
  have y1 : (((w.alloc (.cells #[.slice (some ⟨g, 0, none⟩) n c, .int .i64 s.i, .bool s.bad] 56)).alloc (.cells #[.slice none 0 0, .int .i64 0, .bool false] 56)).alloc (.cells #[.int .u8 0, .int .u8 0, .int .i64 0, .int .i64 0, .string ⟨#[]⟩, .string ⟨#[]⟩, .string ⟨#[]⟩, .slice none 0 0] 29)).heap[w.heap.size]? = some (.cells #[.slice (some ⟨g, 0, none⟩) n c, .int .i64 s.i, .bool s.bad] 56 (0, 0)) := by rw [Below.heap_alloc _ _ _ (by omega), Below.heap_alloc _ _ _ (by omega)]; exact heap_alloc_new w _
  have y2 : (((w.alloc (.cells #[.slice (some ⟨g, 0, none⟩) n c, .int .i64 s.i, .bool s.bad] 56)).alloc (.cells #[.slice none 0 0, .int .i64 0, .bool false] 56)).alloc (.cells #[.int .u8 0, .int .u8 0, .int .i64 0, .int .i64 0, .string ⟨#[]⟩, .string ⟨#[]⟩, .string ⟨#[]⟩, .slice none 0 0] 29)).heap[w.heap.size + 1]? = some (.cells #[.slice none 0 0, .int .i64 0, .bool false] 56 (0, 0)) := by rw [Below.heap_alloc _ _ _ (by omega), ← z1]; exact heap_alloc_new _ _
  have y3 : (((w.alloc (.cells #[.slice (some ⟨g, 0, none⟩) n c, .int .i64 s.i, .bool s.bad] 56)).alloc (.cells #[.slice none 0 0, .int .i64 0, .bool false] 56)).alloc (.cells #[.int .u8 0, .int .u8 0, .int .i64 0, .int .i64 0, .string ⟨#[]⟩, .string ⟨#[]⟩, .string ⟨#[]⟩, .slice none 0 0] 29)).heap[w.heap.size + 1 + 1]? = some (.cells #[.int .u8 0, .int .u8 0, .int .i64 0, .int .i64 0, .string ⟨#[]⟩, .string ⟨#[]⟩, .string ⟨#[]⟩, .slice none 0 0] 29 (0, 0)) := by rw [← z2]; exact heap_alloc_new _ _
  have hun := hL m (Nat.le_refl _) (((w.alloc (.cells #[.slice (some ⟨g, 0, none⟩) n c, .int .i64 s.i, .bool s.bad] 56)).alloc (.cells #[.slice none 0 0, .int .i64 0, .bool false] 56)).alloc (.cells #[.int .u8 0, .int .u8 0, .int .i64 0, .int .i64 0, .string ⟨#[]⟩, .string ⟨#[]⟩, .string ⟨#[]⟩, .slice none 0 0] 29)) s r (hR.below h3) hs hr
  have k4 : ((k : Int) == 4) = false := by have : (k : Int) ≠ 4 := by omega
                                           simpa using this
  have k63 : (k : Int) + 1 ≤ 5 := by omega
  have hcast : ((k + 1 : Nat) : Int) = (k : Int) + 1 := by omega
  rw [hcast] at hun
  have HUN := Lib.hid hun; have HU := Lib.hid hL; have HR := Lib.hid hR; have H3 := Lib.hid h3; have Z3 := Lib.hid z3; have HY := Lib.hid (And.intro y1 (And.intro y2 y3)); have HLT := Lib.hid hlt; have HLO := Lib.hid hlo; have HRL := Lib.hid (hlt m s r hs hr); have HK4 := Lib.hid hk; have HCAST := Lib.hid hcast
  clear hun hL hR h3 z1 z2 z3 y1 y2 y3 hlt hlo hF hF' hr hk hcast
  go_enter Tryz.func49, Tryz.ntmps49
  go_wp2_with (fail)
  refine HUN.out.mono ?_
  rintro e w1 ⟨h, q, l, d, rfl, hT, hb1⟩
  have hn4 : w.heap.size + 3 ≤ w1.heap.size := by have := hb1.size; rw [Z3.out] at this; exact this
  have y1 := (hb1.block _ (lt_of_block HY.out.1)).trans HY.out.1
  have y2 := (hb1.block _ (lt_of_block HY.out.2.1)).trans HY.out.2.1
  have y3 := (hb1.block _ (lt_of_block HY.out.2.2)).trans HY.out.2.2
  rw [Z3.out] at hT
  have ha : Below w1.heap.size w1 (w1.alloc (.cells #[.int .u8 0, .int .u8 0, .int .i64 0, .int .i64 0, .string ⟨#[]⟩, .string ⟨#[]⟩, .string ⟨#[]⟩, .slice none 0 0] 29)) := (Below.refl _ _).alloc (Nat.le_refl _) _
  have hst : ∀ wa wb, Put1 w.heap.size #[.slice (some ⟨g, 0, none⟩) n c, .int .i64 r.1.i, .bool r.1.bad] 56 (w1.alloc (.cells #[.int .u8 0, .int .u8 0, .int .i64 0, .int .i64 0, .string ⟨#[]⟩, .string ⟨#[]⟩, .string ⟨#[]⟩, .slice none 0 0] 29)) wa → Put1 w1.heap.size #[.int .u8 h.k, .int .u8 h.op, .int .i64 h.pl, .int .i64 h.n, .string h.name, .string h.arg, .string h.exn, .slice q l d] 29 wa wb → ApI w g n c w1.heap.size r.1 h q l d r.2 wb := fun wa wb pa pb => by
    have hba : Below w.heap.size w (w1.alloc (.cells #[.int .u8 0, .int .u8 0, .int .i64 0, .int .i64 0, .string ⟨#[]⟩, .string ⟨#[]⟩, .string ⟨#[]⟩, .slice none 0 0] 29)) := (H3.out.trans (hb1.mono H3.out.size)).trans (ha.mono (Nat.le_trans H3.out.size hb1.size))
    refine ⟨pb.below (pa.below hba (Nat.le_refl _)) (by omega), (pb.off _ (by omega)).trans pa.here, ?_, ?_, pb.here, hT.reads' (vl_of (Nat.le_refl _) (.inl (Nat.le_refl _)) fun b hb h1 => ?_), HRL.out, hn4⟩
    · exact (pb.off _ (by omega)).trans ((pa.off _ (by omega)).trans ((ha.block _ (by omega)).trans y2))
    · exact (pb.off _ (by omega)).trans ((pa.off _ (by omega)).trans ((ha.block _ (by omega)).trans y3))
    · exact (pb.off _ (by omega)).trans ((pa.off _ (by omega)).trans (ha.block _ hb))
  have hx1 : (w1.alloc (.cells #[.int .u8 0, .int .u8 0, .int .i64 0, .int .i64 0, .string ⟨#[]⟩, .string ⟨#[]⟩, .string ⟨#[]⟩, .slice none 0 0] 29)).heap[w.heap.size]? = some (.cells #[.slice (some ⟨g, 0, none⟩) n c, .int .i64 s.i, .bool s.bad] 56 (0, 0)) := (ha.block _ (by omega)).trans y1
  have hx4 := heap_alloc_new w1 (.cells #[.int .u8 0, .int .u8 0, .int .i64 0, .int .i64 0, .string ⟨#[]⟩, .string ⟨#[]⟩, .string ⟨#[]⟩, .slice none 0 0] 29)
  have HX1 := Lib.hid hx1; have HX4 := Lib.hid hx4; have HST := Lib.hid hst; have HN4 := Lib.hid hn4
  clear hT hb1 y1 y2 y3 ha hst hx1 hx4 hn4
  go_wp2_with ((first | (refine wpList_stS w.heap.size 2 21 (some ⟨g, 0, none⟩) n c r.1.i r.1.bad _ _ _ rfl rfl HX1.out ?_; intro wa pa; have PA := Lib.hid pa; clear pa) | (refine wpList_stT w1.heap.size 6 22 h.k h.op h.pl h.n h.name h.arg h.exn q l d _ _ _ _ _ _ _ _ rfl rfl ((PA.out.off _ (by have := HN4.out; omega)).trans HX4.out) ?_; intro wb pb; have PB := Lib.hid pb; clear pb)))
  have hst := HST.out wa wb PA.out PB.out
  have HI0 := Lib.hid hst
  have HNN := Lib.hid HN4.out
  have HROW := Lib.hid (fun (W : World) (hb : Below w.heap.size w W) => HR.out.below hb)
  clear hst HST HX1 HX4 PA PB HUN HY H3 Z3
  generalize w1.heap.size = N4 at *
  go_loopg [] m (fun kk wr => ∃ (s' : St) (t' : Tm) (h : Hd) (q : Option Addr) (l d : Nat), kk ≤ m ∧ Hid (ApI w g n c N4 s' h q l d t' wr) ∧ Hid (loopF ts kk k s' t' = some R))
  case atStart => exact ⟨_, _, _, _, _, _, Nat.le_refl _, HI0, HLO⟩
  case round =>
    clear HI0 HLO
    obtain ⟨s', t', h, q, l, d, hk, HI, HL⟩ := hrel
    cases gk with
    | zero => have := HL.out; exact absurd this (by simp [loopF])
    | succ j =>
      have hl := HL.out
      rw [show loopF ts (j + 1) k s' t' = if s'.bad = false ∧ inF (signsF k) (textOf ts s'.i) = true then (levelF ts j (k + 1) ⟨s'.i + 1, s'.bad⟩).bind (fun r => if k < 2 then some (r.1, putF (textOf ts s'.i) t' r.2) else loopF ts j k r.1 (putF (textOf ts s'.i) t' r.2)) else some (s', t') from rfl] at hl
      have HLL := Lib.hid hl
      clear hl HL
      go_wp2_with (fail)
      refine wp_region_held_drew (S := fun V => ApI w g n c N4 s' h q l d t' V) (by kernel_rfl) (HI.out.call (Below.refl _ _).drew) (fun hHeld => ?_)
      have HI0 : Hid (ApI w g n c N4 s' h q l d t' wr.drew) := Lib.hid (HI.out.call (Below.refl _ _).drew)
      clear HI
      generalize wr.drew = v0 at *
      cases hbad : s'.bad
      rotate_left
      · have HBAD := Lib.hid hbad
        clear hbad
        refine wpAnyH_take (i := 0) (v := .pointer (some ⟨w.heap.size, 2, none⟩)) rfl (by kernel_rfl) (by kernel_rfl) (by kernel_rfl) (fun _ _ _ h => h) (Or.inl ⟨by rfl, ?_⟩) (by assumption) ?_
        · intro w' hSw
          obtain ⟨⟨g0, g1, g2⟩, d0, d1, d2⟩ := cellsS hSw.b1
          rw [HBAD.out] at g2
          first | go_simp | rfl
        try simp only [Act.put, List.getElem_toArray, List.getElem_cons_succ, List.getElem_cons_zero, List.setIfInBounds_toArray, List.set_cons_zero, List.set_cons_succ]
        refine wpAnyH_take (i := 1) (v := .bool true) rfl (by kernel_rfl) (by kernel_rfl) (by kernel_rfl) (fun _ _ _ h => h) (Or.inl ⟨by rfl, ?_⟩) (by assumption) ?_
        · intro w' hSw
          obtain ⟨⟨g0, g1, g2⟩, d0, d1, d2⟩ := cellsS hSw.b1
          rw [HBAD.out] at g2
          first | go_simp | rfl
        try simp only [Act.put, List.getElem_toArray, List.getElem_cons_succ, List.getElem_cons_zero, List.setIfInBounds_toArray, List.set_cons_zero, List.set_cons_succ]
        refine wpAnyH_take (i := 2) (v := .bool false) rfl (by kernel_rfl) (by kernel_rfl) (by kernel_rfl) (fun _ _ _ h => h) (Or.inl ⟨by rfl, ?_⟩) (by assumption) ?_
        · intro w' hSw
          obtain ⟨⟨g0, g1, g2⟩, d0, d1, d2⟩ := cellsS hSw.b1
          rw [HBAD.out] at g2
          first | go_simp | rfl
        try simp only [Act.put, List.getElem_toArray, List.getElem_cons_succ, List.getElem_cons_zero, List.setIfInBounds_toArray, List.set_cons_zero, List.set_cons_succ]
        refine wpAnyH_take (i := 3) (v := .bool false) rfl (by kernel_rfl) (by kernel_rfl) (by kernel_rfl) (fun _ _ _ h => h) (Or.inl ⟨by rfl, ?_⟩) (by assumption) ?_
        · intro w' hSw
          obtain ⟨⟨g0, g1, g2⟩, d0, d1, d2⟩ := cellsS hSw.b1
          rw [HBAD.out] at g2
          first | go_simp | rfl
        try simp only [Act.put, List.getElem_toArray, List.getElem_cons_succ, List.getElem_cons_zero, List.setIfInBounds_toArray, List.set_cons_zero, List.set_cons_succ]
        refine wpAnyH_take (i := 4) (v := undef) rfl (by kernel_rfl) (by kernel_rfl) (by kernel_rfl) (fun _ _ _ h => h) (Or.inr ⟨by rfl, rfl⟩) (by assumption) ?_
        try simp only [Act.put, List.getElem_toArray, List.getElem_cons_succ, List.getElem_cons_zero, List.setIfInBounds_toArray, List.set_cons_zero, List.set_cons_succ]
        refine wpAnyH_take (i := 5) (v := undef) rfl (by kernel_rfl) (by kernel_rfl) (by kernel_rfl) (fun _ _ _ h => h) (Or.inr ⟨by rfl, rfl⟩) (by assumption) ?_
        try simp only [Act.put, List.getElem_toArray, List.getElem_cons_succ, List.getElem_cons_zero, List.setIfInBounds_toArray, List.set_cons_zero, List.set_cons_succ]
        refine wpAnyH_take (i := 6) (v := undef) rfl (by kernel_rfl) (by kernel_rfl) (by kernel_rfl) (fun _ _ _ h => h) (Or.inr ⟨by rfl, rfl⟩) (by assumption) ?_
        try simp only [Act.put, List.getElem_toArray, List.getElem_cons_succ, List.getElem_cons_zero, List.setIfInBounds_toArray, List.set_cons_zero, List.set_cons_succ]
        refine wpAnyH_take (i := 7) (v := undef) rfl (by kernel_rfl) (by kernel_rfl) (by kernel_rfl) (fun _ _ _ h => h) (Or.inr ⟨by rfl, rfl⟩) (by assumption) ?_
        try simp only [Act.put, List.getElem_toArray, List.getElem_cons_succ, List.getElem_cons_zero, List.setIfInBounds_toArray, List.set_cons_zero, List.set_cons_succ]
        refine wpAnyH_take (i := 8) (v := undef) rfl (by kernel_rfl) (by kernel_rfl) (by kernel_rfl) (fun _ _ _ h => h) (Or.inr ⟨by rfl, rfl⟩) (by assumption) ?_
        try simp only [Act.put, List.getElem_toArray, List.getElem_cons_succ, List.getElem_cons_zero, List.setIfInBounds_toArray, List.set_cons_zero, List.set_cons_succ]
        refine wpAnyH_take (i := 9) (v := .bool false) rfl (by kernel_rfl) (by kernel_rfl) (by kernel_rfl) (fun _ _ _ h => h) (Or.inl ⟨by rfl, ?_⟩) (by assumption) ?_
        · intro w' hSw
          obtain ⟨⟨g0, g1, g2⟩, d0, d1, d2⟩ := cellsS hSw.b1
          rw [HBAD.out] at g2
          first | go_simp | rfl
        try simp only [Act.put, List.getElem_toArray, List.getElem_cons_succ, List.getElem_cons_zero, List.setIfInBounds_toArray, List.set_cons_zero, List.set_cons_succ]
        refine wpAnyH_done (by kernel_rfl) ?_ _
        clear hHeld
        have hl := HLL.out
        rw [if_neg (by rw [HBAD.out]; simp)] at hl
        obtain rfl : (s', t') = R := Option.some.inj hl
        have HI := HI0
        have H4 := Lib.hid HI.out.b4; have H4T := Lib.hid HI.out.tm
        clear hl HLL HI0
        go_wp2_with (fail)
        have hini : EndS w v0 v0.drew := ⟨HI.out.below.drew, fun b _ _ => rfl, ⟨_, _, _, HI.out.b2⟩, ⟨_, _, _, _, _, _, _, _, HI.out.b3⟩⟩
        refine wp_region_held_drew (S := fun V => EndS w v0 V) (by kernel_rfl) hini (fun hHeld => ?_)
        have HE0 := Lib.hid hini
        clear hini
        generalize v0.drew = v9 at *
        refine wpAnyH_take (i := 0) (v := .agg #[.slice (some ⟨g, 0, none⟩) n c, .int .i64 s'.i, .bool s'.bad]) rfl (by kernel_rfl) (by kernel_rfl) (by kernel_rfl) (fun _ _ _ h => h) (Or.inl ⟨by rfl, ?_⟩) (by assumption) ?_
        · intro w' hSw
          obtain ⟨⟨g0, g1, g2⟩, d0, d1, d2⟩ := cellsS ((hSw.off _ (by omega) (by omega)).trans HI.out.b1)
          first | go_simp | rfl
        try simp only [Act.put, List.getElem_toArray, List.getElem_cons_succ, List.getElem_cons_zero, List.setIfInBounds_toArray, List.set_cons_zero, List.set_cons_succ]
        refine wpAnyH_take (i := 1) (v := .agg #[.int .u8 h.k, .int .u8 h.op, .int .i64 h.pl, .int .i64 h.n, .string h.name, .string h.arg, .string h.exn, .slice q l d]) rfl (by kernel_rfl) (by kernel_rfl) (by kernel_rfl) (fun _ _ _ h => h) (Or.inl ⟨by rfl, ?_⟩) (by assumption) ?_
        · intro w' hSw
          obtain ⟨⟨g0, g1, g2, g3, g4, g5, g6, g7⟩, d0, d1, d2, d3, d4, d5, d6, d7⟩ := cells8' ((hSw.off _ (by have := HI.out.n4; omega) (by have := HI.out.n4; omega)).trans H4.out)
          first | go_simp | rfl
        try simp only [Act.put, List.getElem_toArray, List.getElem_cons_succ, List.getElem_cons_zero, List.setIfInBounds_toArray, List.set_cons_zero, List.set_cons_succ]
        refine wpAnyH_ready (rs := [2]) (by kernel_rfl) (by simp) ?_
        refine AllReadyH.cons rfl (fun K hK => ?_) AllReadyH.nil
        have HK2 := Lib.hid hK
        clear hK
        try rw [if_pos (by rfl)]
        obtain ⟨x1, x2, x3, hx2⟩ := HE0.out.s2
        refine wp_stS _ _ _ _ _ _ _ (w.heap.size + 1) _ _ (some ⟨g, 0, none⟩) n c s'.i s'.bad x1 x2 x3 rfl rfl hx2 (fun va pa => ?_)
        clear hx2
        have HE1 := Lib.hid (HE0.out.two pa)
        have PA := Lib.hid pa
        clear pa
        refine HK2.out _ _ HE1.out (fun hHeld => ?_)
        clear HK2
        try simp only [Act.put, List.getElem_toArray, List.getElem_cons_succ, List.getElem_cons_zero, List.setIfInBounds_toArray, List.set_cons_zero, List.set_cons_succ]
        clear K
        refine wpAnyH_ready (rs := [3]) (by kernel_rfl) (by simp) ?_
        refine AllReadyH.cons rfl (fun K hK => ?_) AllReadyH.nil
        have HK2 := Lib.hid hK
        clear hK
        try rw [if_pos (by rfl)]
        obtain ⟨y1, y2, y3, y4, y5, y6, y7, y8, hy3⟩ := HE1.out.s3
        refine wp_stT _ _ _ _ _ _ _ (w.heap.size + 1 + 1) _ _ h.k h.op h.pl h.n h.name h.arg h.exn q l d y1 y2 y3 y4 y5 y6 y7 y8 rfl rfl hy3 (fun vb pb => ?_)
        clear hy3
        have HE2 := Lib.hid (HE1.out.three pb)
        have PB := Lib.hid pb
        clear pb
        refine HK2.out _ _ HE2.out (fun hHeld => ?_)
        clear HK2
        try simp only [Act.put, List.getElem_toArray, List.getElem_cons_succ, List.getElem_cons_zero, List.setIfInBounds_toArray, List.set_cons_zero, List.set_cons_succ]
        clear K
        refine wpAnyH_done (by kernel_rfl) ?_ _
        clear hHeld
        have htm : TmIs (fresh w.heap.size vb) h q l d t' := H4T.out.reads' (vl_fresh (by omega) fun b _ h1 _ => HE2.out.off b (by omega) (by omega))
        have hr2 := (PB.out.off (w.heap.size + 1) (by omega)).trans PA.out.here
        have hr3 := PB.out.here
        obtain ⟨⟨r0, r1, r2⟩, d0, d1, d2⟩ := cellsS hr2
        obtain ⟨⟨g0, g1, g2, g3, g4, g5, g6, g7⟩, e0, e1, e2, e3, e4, e5, e6, e7⟩ := cells8' hr3
        have rl2 := lt_of_block hr2
        have rl3 := lt_of_block hr3
        have HTM := Lib.hid htm
        clear htm hr2 hr3
        go_wp2_with (fail)
        refine bodyPost_ret (v := .tuple #[.agg #[.slice (some ⟨g, 0, none⟩) n c, .int .i64 s'.i, .bool s'.bad], .agg #[.int .u8 h.k, .int .u8 h.op, .int .i64 h.pl, .int .i64 h.n, .string h.name, .string h.arg, .string h.exn, .slice q l d]]) (by simp [results, Tryz.results49, go_sem, r0, r1, r2, g0, g1, g2, g3, g4, g5, g6, g7, rl2, rl3]) rfl ⟨h, q, l, d, rfl, HTM.out, HE2.out.below⟩
      · have HBAD := Lib.hid hbad
        clear hbad
        refine wpAnyH_take (i := 0) (v := .pointer (some ⟨w.heap.size, 2, none⟩)) rfl (by kernel_rfl) (by kernel_rfl) (by kernel_rfl) (fun _ _ _ h => h) (Or.inl ⟨by rfl, ?_⟩) (by assumption) ?_
        · intro w' hSw
          obtain ⟨⟨g0, g1, g2⟩, d0, d1, d2⟩ := cellsS hSw.b1
          rw [HBAD.out] at g2
          first | go_simp | rfl
        try simp only [Act.put, List.getElem_toArray, List.getElem_cons_succ, List.getElem_cons_zero, List.setIfInBounds_toArray, List.set_cons_zero, List.set_cons_succ]
        refine wpAnyH_take (i := 1) (v := .bool false) rfl (by kernel_rfl) (by kernel_rfl) (by kernel_rfl) (fun _ _ _ h => h) (Or.inl ⟨by rfl, ?_⟩) (by assumption) ?_
        · intro w' hSw
          obtain ⟨⟨g0, g1, g2⟩, d0, d1, d2⟩ := cellsS hSw.b1
          rw [HBAD.out] at g2
          first | go_simp | rfl
        try simp only [Act.put, List.getElem_toArray, List.getElem_cons_succ, List.getElem_cons_zero, List.setIfInBounds_toArray, List.set_cons_zero, List.set_cons_succ]
        refine wpAnyH_take (i := 2) (v := .bool true) rfl (by kernel_rfl) (by kernel_rfl) (by kernel_rfl) (fun _ _ _ h => h) (Or.inl ⟨by rfl, ?_⟩) (by assumption) ?_
        · intro w' hSw
          obtain ⟨⟨g0, g1, g2⟩, d0, d1, d2⟩ := cellsS hSw.b1
          rw [HBAD.out] at g2
          first | go_simp | rfl
        try simp only [Act.put, List.getElem_toArray, List.getElem_cons_succ, List.getElem_cons_zero, List.setIfInBounds_toArray, List.set_cons_zero, List.set_cons_succ]
        refine wpAnyH_take (i := 3) (v := .bool true) rfl (by kernel_rfl) (by kernel_rfl) (by kernel_rfl) (fun _ _ _ h => h) (Or.inl ⟨by rfl, ?_⟩) (by assumption) ?_
        · intro w' hSw
          obtain ⟨⟨g0, g1, g2⟩, d0, d1, d2⟩ := cellsS hSw.b1
          rw [HBAD.out] at g2
          first | go_simp | rfl
        try simp only [Act.put, List.getElem_toArray, List.getElem_cons_succ, List.getElem_cons_zero, List.setIfInBounds_toArray, List.set_cons_zero, List.set_cons_succ]
        refine wpAnyH_take (i := 4) (v := .int .i64 (k : Int)) rfl (by kernel_rfl) (by kernel_rfl) (by kernel_rfl) (fun _ _ _ h => h) (Or.inl ⟨by rfl, ?_⟩) (by assumption) ?_
        · intro w' hSw
          obtain ⟨⟨g0, g1, g2⟩, d0, d1, d2⟩ := cellsS hSw.b1
          rw [HBAD.out] at g2
          first | go_simp | rfl
        try simp only [Act.put, List.getElem_toArray, List.getElem_cons_succ, List.getElem_cons_zero, List.setIfInBounds_toArray, List.set_cons_zero, List.set_cons_succ]
        refine wpAnyH_take (i := 6) (v := .agg #[.slice (some ⟨g, 0, none⟩) n c, .int .i64 s'.i, .bool false]) rfl (by kernel_rfl) (by kernel_rfl) (by kernel_rfl) (fun _ _ _ h => h) (Or.inl ⟨by rfl, ?_⟩) (by assumption) ?_
        · intro w' hSw
          obtain ⟨⟨g0, g1, g2⟩, d0, d1, d2⟩ := cellsS hSw.b1
          rw [HBAD.out] at g2
          first | go_simp | rfl
        try simp only [Act.put, List.getElem_toArray, List.getElem_cons_succ, List.getElem_cons_zero, List.setIfInBounds_toArray, List.set_cons_zero, List.set_cons_succ]
        refine wpAnyH_ready (rs := [5]) (by kernel_rfl) (by simp) ?_
        refine AllReadyH.cons rfl (fun K hK => ?_) AllReadyH.nil
        have HK2 := Lib.hid hK
        clear hK
        go_simp
        refine (signs_walk v0 k HK4.out).mono ?_
        rintro e v1 ⟨rfl, hss, hb1⟩
        have hi1 := HI0.out.call hb1
        refine HK2.out _ _ hi1 (fun hHeld => ?_)
        have HI1 := Lib.hid hi1; have HSS := Lib.hid hss
        clear HK2 hi1 hss hb1 HI0
        try simp only [Act.put, List.getElem_toArray, List.getElem_cons_succ, List.getElem_cons_zero, List.setIfInBounds_toArray, List.set_cons_zero, List.set_cons_succ]
        clear K
        refine wpAnyH_ready (rs := [7]) (by kernel_rfl) (by simp) ?_
        refine AllReadyH.cons rfl (fun K hK => ?_) AllReadyH.nil
        have HK2 := Lib.hid hK
        clear hK
        go_simp
        refine (text_walk v1 g n c ts s'.i false (HROW.out v1 HI1.out.below) HI1.out.lt).mono ?_
        rintro e v2 ⟨rfl, hb2⟩
        have hi2 := HI1.out.call hb2
        refine HK2.out _ _ hi2 (fun hHeld => ?_)
        have HI2 := Lib.hid hi2; have HSS2 := Lib.hid (HSS.out.below hb2)
        clear HK2 hi2 hb2 HI1 HSS
        try simp only [Act.put, List.getElem_toArray, List.getElem_cons_succ, List.getElem_cons_zero, List.setIfInBounds_toArray, List.set_cons_zero, List.set_cons_succ]
        clear K
        refine wpAnyH_ready (rs := [8]) (by kernel_rfl) (by simp) ?_
        refine AllReadyH.cons rfl (fun K hK => ?_) AllReadyH.nil
        have HK2 := Lib.hid hK
        clear hK
        go_simp
        refine (in_walk v2 (some ⟨v0.heap.size, 0, none⟩) (signsF k).length (signsF k).length (signsF k) (textOf ts s'.i) rfl (by unfold maxLen signsF; split <;> (try split) <;> (try split) <;> simp) HSS2.out).mono ?_
        rintro e v3 ⟨rfl, rfl⟩
        refine HK2.out _ _ HI2.out (fun hHeld => ?_)
        clear HK2 HSS2
        try simp only [Act.put, List.getElem_toArray, List.getElem_cons_succ, List.getElem_cons_zero, List.setIfInBounds_toArray, List.set_cons_zero, List.set_cons_succ]
        clear K
        refine wpAnyH_take (i := 9) (v := .bool (inF (signsF k) (textOf ts s'.i))) rfl (by kernel_rfl) (by kernel_rfl) (by kernel_rfl) (fun _ _ _ h => h) (Or.inl ⟨by rfl, ?_⟩) (by assumption) ?_
        · intro w' hSw
          obtain ⟨⟨g0, g1, g2⟩, d0, d1, d2⟩ := cellsS hSw.b1
          rw [HBAD.out] at g2
          first | go_simp | rfl
        try simp only [Act.put, List.getElem_toArray, List.getElem_cons_succ, List.getElem_cons_zero, List.setIfInBounds_toArray, List.set_cons_zero, List.set_cons_succ]
        refine wpAnyH_done (by kernel_rfl) ?_ _
        clear hHeld
        generalize v0.heap.size = z0
        cases hin : inF (signsF k) (textOf ts s'.i)
        · have hl := HLL.out
          rw [if_neg (by rw [hin]; simp)] at hl
          obtain rfl : (s', t') = R := Option.some.inj hl
          have HI := HI2
          have H4 := Lib.hid HI.out.b4; have H4T := Lib.hid HI.out.tm
          clear hl HLL HI2 hin
          go_wp2_with (fail)
          have hini : EndS w v2 v2.drew := ⟨HI.out.below.drew, fun b _ _ => rfl, ⟨_, _, _, HI.out.b2⟩, ⟨_, _, _, _, _, _, _, _, HI.out.b3⟩⟩
          refine wp_region_held_drew (S := fun V => EndS w v2 V) (by kernel_rfl) hini (fun hHeld => ?_)
          have HE0 := Lib.hid hini
          clear hini
          generalize v2.drew = v9 at *
          refine wpAnyH_take (i := 0) (v := .agg #[.slice (some ⟨g, 0, none⟩) n c, .int .i64 s'.i, .bool s'.bad]) rfl (by kernel_rfl) (by kernel_rfl) (by kernel_rfl) (fun _ _ _ h => h) (Or.inl ⟨by rfl, ?_⟩) (by assumption) ?_
          · intro w' hSw
            obtain ⟨⟨g0, g1, g2⟩, d0, d1, d2⟩ := cellsS ((hSw.off _ (by omega) (by omega)).trans HI.out.b1)
            first | go_simp | rfl
          try simp only [Act.put, List.getElem_toArray, List.getElem_cons_succ, List.getElem_cons_zero, List.setIfInBounds_toArray, List.set_cons_zero, List.set_cons_succ]
          refine wpAnyH_take (i := 1) (v := .agg #[.int .u8 h.k, .int .u8 h.op, .int .i64 h.pl, .int .i64 h.n, .string h.name, .string h.arg, .string h.exn, .slice q l d]) rfl (by kernel_rfl) (by kernel_rfl) (by kernel_rfl) (fun _ _ _ h => h) (Or.inl ⟨by rfl, ?_⟩) (by assumption) ?_
          · intro w' hSw
            obtain ⟨⟨g0, g1, g2, g3, g4, g5, g6, g7⟩, d0, d1, d2, d3, d4, d5, d6, d7⟩ := cells8' ((hSw.off _ (by have := HI.out.n4; omega) (by have := HI.out.n4; omega)).trans H4.out)
            first | go_simp | rfl
          try simp only [Act.put, List.getElem_toArray, List.getElem_cons_succ, List.getElem_cons_zero, List.setIfInBounds_toArray, List.set_cons_zero, List.set_cons_succ]
          refine wpAnyH_ready (rs := [2]) (by kernel_rfl) (by simp) ?_
          refine AllReadyH.cons rfl (fun K hK => ?_) AllReadyH.nil
          have HK2 := Lib.hid hK
          clear hK
          try rw [if_pos (by rfl)]
          obtain ⟨x1, x2, x3, hx2⟩ := HE0.out.s2
          refine wp_stS _ _ _ _ _ _ _ (w.heap.size + 1) _ _ (some ⟨g, 0, none⟩) n c s'.i s'.bad x1 x2 x3 rfl rfl hx2 (fun va pa => ?_)
          clear hx2
          have HE1 := Lib.hid (HE0.out.two pa)
          have PA := Lib.hid pa
          clear pa
          refine HK2.out _ _ HE1.out (fun hHeld => ?_)
          clear HK2
          try simp only [Act.put, List.getElem_toArray, List.getElem_cons_succ, List.getElem_cons_zero, List.setIfInBounds_toArray, List.set_cons_zero, List.set_cons_succ]
          clear K
          refine wpAnyH_ready (rs := [3]) (by kernel_rfl) (by simp) ?_
          refine AllReadyH.cons rfl (fun K hK => ?_) AllReadyH.nil
          have HK2 := Lib.hid hK
          clear hK
          try rw [if_pos (by rfl)]
          obtain ⟨y1, y2, y3, y4, y5, y6, y7, y8, hy3⟩ := HE1.out.s3
          refine wp_stT _ _ _ _ _ _ _ (w.heap.size + 1 + 1) _ _ h.k h.op h.pl h.n h.name h.arg h.exn q l d y1 y2 y3 y4 y5 y6 y7 y8 rfl rfl hy3 (fun vb pb => ?_)
          clear hy3
          have HE2 := Lib.hid (HE1.out.three pb)
          have PB := Lib.hid pb
          clear pb
          refine HK2.out _ _ HE2.out (fun hHeld => ?_)
          clear HK2
          try simp only [Act.put, List.getElem_toArray, List.getElem_cons_succ, List.getElem_cons_zero, List.setIfInBounds_toArray, List.set_cons_zero, List.set_cons_succ]
          clear K
          refine wpAnyH_done (by kernel_rfl) ?_ _
          clear hHeld
          have htm : TmIs (fresh w.heap.size vb) h q l d t' := H4T.out.reads' (vl_fresh (by omega) fun b _ h1 _ => HE2.out.off b (by omega) (by omega))
          have hr2 := (PB.out.off (w.heap.size + 1) (by omega)).trans PA.out.here
          have hr3 := PB.out.here
          obtain ⟨⟨r0, r1, r2⟩, d0, d1, d2⟩ := cellsS hr2
          obtain ⟨⟨g0, g1, g2, g3, g4, g5, g6, g7⟩, e0, e1, e2, e3, e4, e5, e6, e7⟩ := cells8' hr3
          have rl2 := lt_of_block hr2
          have rl3 := lt_of_block hr3
          have HTM := Lib.hid htm
          clear htm hr2 hr3
          go_wp2_with (fail)
          refine bodyPost_ret (v := .tuple #[.agg #[.slice (some ⟨g, 0, none⟩) n c, .int .i64 s'.i, .bool s'.bad], .agg #[.int .u8 h.k, .int .u8 h.op, .int .i64 h.pl, .int .i64 h.n, .string h.name, .string h.arg, .string h.exn, .slice q l d]]) (by simp [results, Tryz.results49, go_sem, r0, r1, r2, g0, g1, g2, g3, g4, g5, g6, g7, rl2, rl3]) rfl ⟨h, q, l, d, rfl, HTM.out, HE2.out.below⟩
        · have hl := HLL.out
          rw [if_pos ⟨HBAD.out, hin⟩] at hl
          obtain ⟨r2, hr2, hl2⟩ := Option.bind_eq_some_iff.1 hl
          have htx := in_ne (signs_ne k) hin
          have hnx : s'.i + 1 < n := by
            have := text_next ts HR.out.row (by rw [HR.out.len]; exact HI2.out.lt) htx rfl
            rw [HR.out.len] at this
            exact this
          have hi63 : (s'.i : Int) + 1 ≤ 70000 := by have := HR.out.small; omega
          have hi0 : (0 : Int) ≤ (s'.i : Int) := by omega
          obtain ⟨i5, hi5⟩ : ∃ i5 : Nat, i5 = s'.i + 1 := ⟨_, rfl⟩
          have he5 : (s'.i : Int) + 1 = (i5 : Int) := by omega
          rw [← hi5] at hnx hr2
          rw [HBAD.out] at hr2
          have HL2 := Lib.hid hl2; have HR2 := Lib.hid hr2; have HNX := Lib.hid hnx; have HE5 := Lib.hid he5
          clear hl hl2 hr2 htx hnx hin HLL hi5 he5
          obtain ⟨⟨x0, x1, x2⟩, y0, y1, y2⟩ := cellsS HI2.out.b1
          obtain ⟨⟨b0, b1, b2, b3, b4, b5, b6, b7⟩, f0, f1, f2, f3, f4, f5, f6, f7⟩ := cells8' HI2.out.b4
          have xl := lt_of_block HI2.out.b1
          have bl := lt_of_block HI2.out.b4
          rw [HBAD.out] at x2
          go_wp2_with (fail)
          refine (text_walk v2 g n c ts s'.i false (HROW.out v2 HI2.out.below) HI2.out.lt).mono ?_
          rintro e w4 ⟨rfl, hb4⟩
          have HI4 := Lib.hid (HI2.out.call hb4)
          clear HI2 hb4 x0 x1 x2 y0 y1 y2 b0 b1 b2 b3 b4 b5 b6 b7 f0 f1 f2 f3 f4 f5 f6 f7 xl bl
          generalize textOf ts s'.i = tx at *
          obtain ⟨⟨x0, x1, x2⟩, y0, y1, y2⟩ := cellsS HI4.out.b1
          obtain ⟨⟨b0, b1, b2, b3, b4, b5, b6, b7⟩, f0, f1, f2, f3, f4, f5, f6, f7⟩ := cells8' HI4.out.b4
          have xl := lt_of_block HI4.out.b1
          have bl := lt_of_block HI4.out.b4
          rw [HBAD.out] at x2
          go_wp2_with ((refine wpList_stI w.heap.size 38 37 ((s'.i : Int) + 1) _ _ _ rfl rfl HI4.out.b1 ?_; intro w5 p5; rw [HE5.out, HBAD.out] at p5; have HI5 := Lib.hid (HI4.out.state (s' := ⟨i5, false⟩) p5 HNX.out); clear x0 x1 x2 y0 y1 y2 b0 b1 b2 b3 b4 b5 b6 b7 f0 f1 f2 f3 f4 f5 f6 f7 xl bl; clear p5; obtain ⟨⟨x0, x1, x2⟩, y0, y1, y2⟩ := cellsS HI5.out.b1; have xl := lt_of_block HI5.out.b1))
          have hun := HU.out j (by omega) w5 ⟨i5, false⟩ r2 (HROW.out w5 HI5.out.below) HNX.out HR2.out
          rw [HCAST.out] at hun
          have HUN := Lib.hid hun; have HRL2 := Lib.hid (HLT.out j _ r2 HNX.out HR2.out)
          clear hun HI4 HR2
          refine HUN.out.mono ?_
          rintro e w3 ⟨h', q', l', d', rfl, hT3, hb3⟩
          have hz5 : ((w3.alloc (.cells #[.slice none 0 0, .int .i64 0, .bool false] 56)).alloc (.cells #[.int .u8 0, .int .u8 0, .int .i64 0, .int .i64 0, .string ⟨#[]⟩, .string ⟨#[]⟩, .string ⟨#[]⟩, .slice none 0 0] 29)).heap[w3.heap.size]? = some (.cells #[.slice none 0 0, .int .i64 0, .bool false] 56 (0, 0)) := by rw [Below.heap_alloc _ _ _ (by simp)]; exact heap_alloc_new w3 _
          have hz6 : ((w3.alloc (.cells #[.slice none 0 0, .int .i64 0, .bool false] 56)).alloc (.cells #[.int .u8 0, .int .u8 0, .int .i64 0, .int .i64 0, .string ⟨#[]⟩, .string ⟨#[]⟩, .string ⟨#[]⟩, .slice none 0 0] 29)).heap[w3.heap.size + 1]? = some (.cells #[.int .u8 0, .int .u8 0, .int .i64 0, .int .i64 0, .string ⟨#[]⟩, .string ⟨#[]⟩, .string ⟨#[]⟩, .slice none 0 0] 29 (0, 0)) := by rw [← show (w3.alloc (.cells #[.slice none 0 0, .int .i64 0, .bool false] 56)).heap.size = w3.heap.size + 1 from by simp]; exact heap_alloc_new _ _
          have hz1 : ((w3.alloc (.cells #[.slice none 0 0, .int .i64 0, .bool false] 56)).alloc (.cells #[.int .u8 0, .int .u8 0, .int .i64 0, .int .i64 0, .string ⟨#[]⟩, .string ⟨#[]⟩, .string ⟨#[]⟩, .slice none 0 0] 29)).heap[w.heap.size]? = some (.cells #[.slice (some ⟨g, 0, none⟩) n c, .int .i64 (i5 : Int), .bool false] 56 (0, 0)) := by
            have h1 := lt_of_block HI5.out.b1
            have h2 := hb3.size
            rw [Below.heap_alloc _ _ _ (by simp; omega), Below.heap_alloc _ _ _ (by omega), hb3.block _ h1]
            exact HI5.out.b1
          have hws : w.heap.size < w3.heap.size := by have h1 := lt_of_block HI5.out.b1; have h2 := hb3.size; omega
          have HZ5 := Lib.hid hz5; have HZ6 := Lib.hid hz6; have HZ1 := Lib.hid hz1; have HT3 := Lib.hid hT3; have HB3 := Lib.hid hb3; have HWS := Lib.hid hws
          clear hz5 hz6 hz1 hT3 hb3 hws x0 x1 x2 y0 y1 y2 xl
          go_wp2_with ((first | (refine wpList_stS w3.heap.size 8 44 (some ⟨g, 0, none⟩) n c r2.1.i r2.1.bad _ _ _ rfl rfl HZ5.out ?_; intro va pa; have PA := Lib.hid pa; clear pa) | (refine wpList_stT (w3.heap.size + 1) 9 45 h'.k h'.op h'.pl h'.n h'.name h'.arg h'.exn q' l' d' _ _ _ _ _ _ _ _ rfl rfl ((PA.out.off _ (by omega)).trans HZ6.out) ?_; intro vb pb; have PB := Lib.hid pb; clear pb; obtain ⟨⟨z0, z1, z2⟩, z3, z4, z5⟩ := cellsS ((PB.out.off w3.heap.size (by omega)).trans PA.out.here); have zl := lt_of_block ((PB.out.off w3.heap.size (by omega)).trans PA.out.here)) | (refine wpList_stS w.heap.size 2 46 (some ⟨g, 0, none⟩) n c r2.1.i r2.1.bad _ _ _ rfl rfl ((PB.out.off _ (by have := HWS.out; omega)).trans ((PA.out.off _ (by have := HWS.out; omega)).trans HZ1.out)) ?_; intro vc pc; have HS3 := Lib.hid (ap_step HI5.out HT3.out HB3.out PA.out PB.out pc HRL2.out); clear pc z0 z1 z2 z3 z4 z5 zl; obtain ⟨⟨b0, b1, b2, b3, b4, b5, b6, b7⟩, f0, f1, f2, f3, f4, f5, f6, f7⟩ := cells8' HS3.out.1.b4; obtain ⟨⟨c0, c1, c2, c3, c4, c5, c6, c7⟩, e0, e1, e2, e3, e4, e5, e6, e7⟩ := cells8' HS3.out.2.1; have bl := lt_of_block HS3.out.1.b4; have cl := lt_of_block HS3.out.2.1)))
          refine (put_any2 tx h.k h.op h.pl h.n h'.k h'.op h'.pl h'.n h.name h.arg h.exn h'.name h'.arg h'.exn q q' l l' d d' vc).mono ?_
          rintro e w6 ⟨bx, hbx, rfl, hcx, hb6⟩
          have hz4 : w6.heap[N4]? = some (.cells #[.int .u8 h.k, .int .u8 h.op, .int .i64 h.pl, .int .i64 h.n, .string h.name, .string h.arg, .string h.exn, .slice q l d] 29 (0, 0)) := (hb6.block _ (lt_of_block HS3.out.1.b4)).trans HS3.out.1.b4
          have HZ4 := Lib.hid hz4; have HB6 := Lib.hid hb6; have HCX := Lib.hid hcx; have HBX := Lib.hid hbx
          clear hz4 hb6 hcx hbx b0 b1 b2 b3 b4 b5 b6 b7 f0 f1 f2 f3 f4 f5 f6 f7 c0 c1 c2 c3 c4 c5 c6 c7 e0 e1 e2 e3 e4 e5 e6 e7 bl cl
          by_cases hk2 : k < 2
          · have hki : (k : Int) < 2 := by omega
            have hl2 := HL2.out
            rw [if_pos hk2] at hl2
            obtain rfl : (r2.1, putF tx t' r2.2) = R := Option.some.inj hl2
            clear hl2 hk2 HL2
            go_wp2_with (refine wpList_stT N4 6 50 (opK tx) (opO tx) h.pl 0 ⟨#[]⟩ ⟨#[]⟩ ⟨#[]⟩ (some ⟨bx, 0, none⟩) 2 2 _ _ _ _ _ _ _ _ rfl rfl HZ4.out ?_; intro vd pd; have PD := Lib.hid pd; clear pd)
            have hnx := ap_put HS3.out.1 HS3.out.2.2 HBX.out HCX.out HB6.out PD.out
            obtain ⟨h, q, l, d, HI⟩ : ∃ h q l d, Hid (ApI w g n c N4 r2.1 h q l d (putF tx t' r2.2) vd) := ⟨_, _, _, _, Lib.hid hnx⟩
            clear hnx HS3 HBX HCX HB6 PD HZ4
            have H4 := Lib.hid HI.out.b4; have H4T := Lib.hid HI.out.tm
            have hini : EndS w vd vd.drew := ⟨HI.out.below.drew, fun b _ _ => rfl, ⟨_, _, _, HI.out.b2⟩, ⟨_, _, _, _, _, _, _, _, HI.out.b3⟩⟩
            refine wp_region_held_drew (S := fun V => EndS w vd V) (by kernel_rfl) hini (fun hHeld => ?_)
            have HE0 := Lib.hid hini
            clear hini
            generalize vd.drew = v9 at *
            refine wpAnyH_take (i := 0) (v := .agg #[.slice (some ⟨g, 0, none⟩) n c, .int .i64 r2.1.i, .bool r2.1.bad]) rfl (by kernel_rfl) (by kernel_rfl) (by kernel_rfl) (fun _ _ _ h => h) (Or.inl ⟨by rfl, ?_⟩) (by assumption) ?_
            · intro w' hSw
              obtain ⟨⟨g0, g1, g2⟩, d0, d1, d2⟩ := cellsS ((hSw.off _ (by omega) (by omega)).trans HI.out.b1)
              first | go_simp | rfl
            try simp only [Act.put, List.getElem_toArray, List.getElem_cons_succ, List.getElem_cons_zero, List.setIfInBounds_toArray, List.set_cons_zero, List.set_cons_succ]
            refine wpAnyH_take (i := 1) (v := .agg #[.int .u8 h.k, .int .u8 h.op, .int .i64 h.pl, .int .i64 h.n, .string h.name, .string h.arg, .string h.exn, .slice q l d]) rfl (by kernel_rfl) (by kernel_rfl) (by kernel_rfl) (fun _ _ _ h => h) (Or.inl ⟨by rfl, ?_⟩) (by assumption) ?_
            · intro w' hSw
              obtain ⟨⟨g0, g1, g2, g3, g4, g5, g6, g7⟩, d0, d1, d2, d3, d4, d5, d6, d7⟩ := cells8' ((hSw.off _ (by have := HI.out.n4; omega) (by have := HI.out.n4; omega)).trans H4.out)
              first | go_simp | rfl
            try simp only [Act.put, List.getElem_toArray, List.getElem_cons_succ, List.getElem_cons_zero, List.setIfInBounds_toArray, List.set_cons_zero, List.set_cons_succ]
            refine wpAnyH_ready (rs := [2]) (by kernel_rfl) (by simp) ?_
            refine AllReadyH.cons rfl (fun K hK => ?_) AllReadyH.nil
            have HK2 := Lib.hid hK
            clear hK
            try rw [if_pos (by rfl)]
            obtain ⟨x1, x2, x3, hx2⟩ := HE0.out.s2
            refine wp_stS _ _ _ _ _ _ _ (w.heap.size + 1) _ _ (some ⟨g, 0, none⟩) n c r2.1.i r2.1.bad x1 x2 x3 rfl rfl hx2 (fun ue pa => ?_)
            clear hx2
            have HE1 := Lib.hid (HE0.out.two pa)
            have PA := Lib.hid pa
            clear pa
            refine HK2.out _ _ HE1.out (fun hHeld => ?_)
            clear HK2
            try simp only [Act.put, List.getElem_toArray, List.getElem_cons_succ, List.getElem_cons_zero, List.setIfInBounds_toArray, List.set_cons_zero, List.set_cons_succ]
            clear K
            refine wpAnyH_ready (rs := [3]) (by kernel_rfl) (by simp) ?_
            refine AllReadyH.cons rfl (fun K hK => ?_) AllReadyH.nil
            have HK2 := Lib.hid hK
            clear hK
            try rw [if_pos (by rfl)]
            obtain ⟨y1, y2, y3, y4, y5, y6, y7, y8, hy3⟩ := HE1.out.s3
            refine wp_stT _ _ _ _ _ _ _ (w.heap.size + 1 + 1) _ _ h.k h.op h.pl h.n h.name h.arg h.exn q l d y1 y2 y3 y4 y5 y6 y7 y8 rfl rfl hy3 (fun uf pb => ?_)
            clear hy3
            have HE2 := Lib.hid (HE1.out.three pb)
            have PB := Lib.hid pb
            clear pb
            refine HK2.out _ _ HE2.out (fun hHeld => ?_)
            clear HK2
            try simp only [Act.put, List.getElem_toArray, List.getElem_cons_succ, List.getElem_cons_zero, List.setIfInBounds_toArray, List.set_cons_zero, List.set_cons_succ]
            clear K
            refine wpAnyH_done (by kernel_rfl) ?_ _
            clear hHeld
            have htm : TmIs (fresh w.heap.size uf) h q l d (putF tx t' r2.2) := H4T.out.reads' (vl_fresh (by omega) fun b _ h1 _ => HE2.out.off b (by omega) (by omega))
            have hr2 := (PB.out.off (w.heap.size + 1) (by omega)).trans PA.out.here
            have hr3 := PB.out.here
            obtain ⟨⟨rr0, rr1, rr2⟩, d0, d1, d2⟩ := cellsS hr2
            obtain ⟨⟨g0, g1, g2, g3, g4, g5, g6, g7⟩, e0, e1, e2, e3, e4, e5, e6, e7⟩ := cells8' hr3
            have rl2 := lt_of_block hr2
            have rl3 := lt_of_block hr3
            have HTM := Lib.hid htm
            clear htm hr2 hr3
            go_wp2_with (fail)
            refine bodyPost_ret (v := .tuple #[.agg #[.slice (some ⟨g, 0, none⟩) n c, .int .i64 r2.1.i, .bool r2.1.bad], .agg #[.int .u8 h.k, .int .u8 h.op, .int .i64 h.pl, .int .i64 h.n, .string h.name, .string h.arg, .string h.exn, .slice q l d]]) (by simp [results, Tryz.results49, go_sem, rr0, rr1, rr2, g0, g1, g2, g3, g4, g5, g6, g7, rl2, rl3]) rfl ⟨h, q, l, d, rfl, HTM.out, HE2.out.below⟩
          · have hki : (2 : Int) ≤ (k : Int) := by omega
            have hl2 := HL2.out
            rw [if_neg hk2] at hl2
            have HL3 := Lib.hid hl2
            clear hl2 hk2 HL2
            go_upto_region 10 with (refine wpList_stT N4 6 50 (opK tx) (opO tx) h.pl 0 ⟨#[]⟩ ⟨#[]⟩ ⟨#[]⟩ (some ⟨bx, 0, none⟩) 2 2 _ _ _ _ _ _ _ _ rfl rfl HZ4.out ?_; intro vd pd; have PD := Lib.hid pd; clear pd)
            have hkd : decide ((k : Int) < 2) = false := decide_eq_false (by omega)
            clear hki
            go_wp2_with (fail)
            have hnx := ap_put HS3.out.1 HS3.out.2.2 HBX.out HCX.out HB6.out PD.out
            have HNX2 := Lib.hid hnx
            clear hnx
            go_roundg j
            case measure => omega
            case rel => exact ⟨_, _, _, _, _, _, by omega, HNX2, HL3⟩
end Parse
end Go.Proofs.YtadpjkehflokcaaGreatDoor
namespace Go.Proofs.YtadpjkehflokcaaGreatDoor
open Go.RowKit
set_option linter.unusedVariables false
set_option linter.unusedSimpArgs false
namespace Parse
open Token (Tok tel ToksAt)
open Term (Tm Hd TmIs Flat tcells veil Reads)
set_option maxRecDepth 100000 in
set_option maxHeartbeats 25600000 in
theorem levelD_last (g n c : Nat) (ts : List Tok) (m : Nat) (hA : DPart 82 (applyF ts m) g n c ts) : DLevel (levelF ts (m + 1) 4) 4 g n c ts := by
  intro w s R hR hs hF
  have hF' : applyF ts m s = some R := hF
  have h3 : Below w.heap.size w (((w.alloc (.cells #[.slice (some ⟨g, 0, none⟩) n c, .int .i64 s.i, .bool s.bad] 56)).alloc (.cells #[.slice none 0 0, .int .i64 0, .bool false] 56)).alloc (.cells #[.int .u8 0, .int .u8 0, .int .i64 0, .int .i64 0, .string ⟨#[]⟩, .string ⟨#[]⟩, .string ⟨#[]⟩, .slice none 0 0] 29)) := (((Below.refl _ _).alloc (Nat.le_refl _) _).alloc (by simp) _).alloc (by simp; omega) _
  have z3 : (((w.alloc (.cells #[.slice (some ⟨g, 0, none⟩) n c, .int .i64 s.i, .bool s.bad] 56)).alloc (.cells #[.slice none 0 0, .int .i64 0, .bool false] 56)).alloc (.cells #[.int .u8 0, .int .u8 0, .int .i64 0, .int .i64 0, .string ⟨#[]⟩, .string ⟨#[]⟩, .string ⟨#[]⟩, .slice none 0 0] 29)).heap.size = w.heap.size + 3 := by simp
  have z2 : ((w.alloc (.cells #[.slice (some ⟨g, 0, none⟩) n c, .int .i64 s.i, .bool s.bad] 56)).alloc (.cells #[.slice none 0 0, .int .i64 0, .bool false] 56)).heap.size = w.heap.size + 1 + 1 := by simp
  have z1 : (w.alloc (.cells #[.slice (some ⟨g, 0, none⟩) n c, .int .i64 s.i, .bool s.bad] 56)).heap.size = w.heap.size + 1 := by simp
  have y2 : (((w.alloc (.cells #[.slice (some ⟨g, 0, none⟩) n c, .int .i64 s.i, .bool s.bad] 56)).alloc (.cells #[.slice none 0 0, .int .i64 0, .bool false] 56)).alloc (.cells #[.int .u8 0, .int .u8 0, .int .i64 0, .int .i64 0, .string ⟨#[]⟩, .string ⟨#[]⟩, .string ⟨#[]⟩, .slice none 0 0] 29)).heap[w.heap.size + 1]? = some (.cells #[.slice none 0 0, .int .i64 0, .bool false] 56 (0, 0)) := by rw [Below.heap_alloc _ _ _ (by omega), ← z1]; exact heap_alloc_new _ _
  have y3 : (((w.alloc (.cells #[.slice (some ⟨g, 0, none⟩) n c, .int .i64 s.i, .bool s.bad] 56)).alloc (.cells #[.slice none 0 0, .int .i64 0, .bool false] 56)).alloc (.cells #[.int .u8 0, .int .u8 0, .int .i64 0, .int .i64 0, .string ⟨#[]⟩, .string ⟨#[]⟩, .string ⟨#[]⟩, .slice none 0 0] 29)).heap[w.heap.size + 1 + 1]? = some (.cells #[.int .u8 0, .int .u8 0, .int .i64 0, .int .i64 0, .string ⟨#[]⟩, .string ⟨#[]⟩, .string ⟨#[]⟩, .slice none 0 0] 29 (0, 0)) := by rw [← z2]; exact heap_alloc_new _ _
  have hun := hA (((w.alloc (.cells #[.slice (some ⟨g, 0, none⟩) n c, .int .i64 s.i, .bool s.bad] 56)).alloc (.cells #[.slice none 0 0, .int .i64 0, .bool false] 56)).alloc (.cells #[.int .u8 0, .int .u8 0, .int .i64 0, .int .i64 0, .string ⟨#[]⟩, .string ⟨#[]⟩, .string ⟨#[]⟩, .slice none 0 0] 29)) s R (hR.below h3) hs hF'
  have HUN := Lib.hid hun; have H3 := Lib.hid h3; have Z3 := Lib.hid z3; have HY := Lib.hid (And.intro y2 y3)
  clear hun hA hR h3 z1 z2 z3 y2 y3 hF hF'
  show Calls Tryz.prog 49 #[.agg #[.slice (some ⟨g, 0, none⟩) n c, .int .i64 s.i, .bool s.bad], .int .i64 4] w (DEnd g n c R w)
  go_enter Tryz.func49, Tryz.ntmps49
  go_wp2_with (fail)
  refine HUN.out.mono ?_
  rintro e w1 ⟨h, q, l, d, rfl, hT, hb1⟩
  have y2 := (hb1.block _ (lt_of_block HY.out.1)).trans HY.out.1
  have y3 := (hb1.block _ (lt_of_block HY.out.2)).trans HY.out.2
  rw [Z3.out] at hT
  have hbw := H3.out.trans (hb1.mono H3.out.size)
  have HT := Lib.hid hT; have HY2 := Lib.hid y2; have HY3 := Lib.hid y3; have HBW := Lib.hid hbw
  clear hT hb1 y2 y3 hbw HUN HY H3 Z3
  go_wp2_with ((first | (refine wpList_stS (w.heap.size + 1) 4 14 (some ⟨g, 0, none⟩) n c R.1.i R.1.bad _ _ _ rfl rfl HY2.out ?_; intro wa pa; have PA := Lib.hid pa; clear pa) | (refine wpList_stT (w.heap.size + 1 + 1) 5 15 h.k h.op h.pl h.n h.name h.arg h.exn q l d _ _ _ _ _ _ _ _ rfl rfl ((PA.out.off _ (by omega)).trans HY3.out) ?_; intro wb pb; have PB := Lib.hid pb; clear pb)))
  have htm : TmIs (fresh w.heap.size wb) h q l d R.2 := HT.out.reads' (fresh_step (by omega) fun k h1 h2 => (PB.out.off k (by omega)).trans (PA.out.off k (by omega)))
  have hr2 := (PB.out.off (w.heap.size + 1) (by omega)).trans PA.out.here
  have hr3 := PB.out.here
  have hbb := PB.out.below (PA.out.below HBW.out (by omega)) (by omega)
  obtain ⟨⟨r0, r1, r2⟩, d0, d1, d2⟩ := cellsS hr2
  obtain ⟨⟨g0, g1, g2, g3, g4, g5, g6, g7⟩, e0, e1, e2, e3, e4, e5, e6, e7⟩ := cells8' hr3
  have rl2 := lt_of_block hr2
  have rl3 := lt_of_block hr3
  refine bodyPost_ret (v := .tuple #[.agg #[.slice (some ⟨g, 0, none⟩) n c, .int .i64 R.1.i, .bool R.1.bad], .agg #[.int .u8 h.k, .int .u8 h.op, .int .i64 h.pl, .int .i64 h.n, .string h.name, .string h.arg, .string h.exn, .slice q l d]]) (by simp [results, Tryz.results49, go_sem, r0, r1, r2, g0, g1, g2, g3, g4, g5, g6, g7, rl2, rl3]) rfl ⟨h, q, l, d, rfl, htm, hbb⟩
end Parse
end Go.Proofs.YtadpjkehflokcaaGreatDoor
namespace Go.Proofs.YtadpjkehflokcaaGreatDoor
open Go.RowKit
set_option linter.unusedVariables false
set_option linter.unusedSimpArgs false
namespace Parse
open Token (Tok tel ToksAt BytesIn LexEnd lex endT)
open Term (Tm Hd TmIs)

def BegEnd (xs : List Int) (w : World) (e : Ending) (w' : World) : Prop :=
  Below w.heap.size w w' ∧
  ((65536 < xs.length ∧ e = .returned (.tuple #[.agg #[.slice none 0 0, .int .i64 0, .bool false], .int .i64 0, .int .i64 3])) ∨
   (xs.length ≤ 65536 ∧ ∃ k : Nat, lex xs 0 = .inl k ∧ e = .returned (.tuple #[.agg #[.slice none 0 0, .int .i64 0, .bool false], .int .i64 k, .int .i64 2])) ∨
   (xs.length ≤ 65536 ∧ ∃ ts g c, lex xs 0 = .inr ts ∧ e = .returned (.tuple #[.agg #[.slice (some ⟨g, 0, none⟩) (ts.length + 1) c, .int .i64 0, .bool false], .int .i64 0, .int .i64 0]) ∧ RowAt w' g (ts.length + 1) c (ts ++ [endT xs.length])))
set_option maxRecDepth 100000 in
set_option maxHeartbeats 12800000 in
theorem begin_walk (p : Option Addr) (n d : Nat) (xs : List Int) (w : World) (hb : BytesIn w p n d xs) (hfew : ∀ ts, lex xs 0 = .inr ts → ts.length + 1 ≤ 4001) :
    Calls Tryz.prog 20 #[.slice p n d] w (BegEnd xs w) := by
  have ha : Below w.heap.size w (w.alloc (.cells #[.slice none 0 0, .int .i64 0, .bool false] 56)) := (Below.refl _ _).alloc (Nat.le_refl _) _
  have hlx := Token.refLex_walk p n d xs (w.alloc (.cells #[.slice none 0 0, .int .i64 0, .bool false] 56)) (hb.below ha)
  have hbx := heap_alloc_new w (.cells #[.slice none 0 0, .int .i64 0, .bool false] 56)
  have HLX := Lib.hid hlx; have HA := Lib.hid ha; have HBX := Lib.hid hbx; have HF := Lib.hid hfew
  clear hlx ha hbx hb hfew
  go_enter Tryz.func20, Tryz.ntmps20
  go_wp2_with (fail)
  refine HLX.out.mono ?_
  rintro e w1 ⟨hb1, ⟨h1, p1, c1, rfl⟩ | ⟨h1, p1, c1, k, hk, rfl⟩ | ⟨h1, ts, g, c, hk, rfl, ht, hc1, hc2⟩⟩
  · have y1 := (hb1.block _ (lt_of_block HBX.out)).trans HBX.out
    have HB := Lib.hid (HA.out.trans (hb1.mono HA.out.size)); have HY := Lib.hid y1; have H1 := Lib.hid h1
    clear hb1 y1 h1 HLX
    go_wp2_with (refine wpList_stS w.heap.size 2 16 none 0 0 0 false _ _ _ rfl rfl HY.out ?_; intro wa pa; have PA := Lib.hid pa; clear pa)
    obtain ⟨⟨r0, r1, r2⟩, d0, d1, d2⟩ := cellsS PA.out.here
    have rl2 := lt_of_block PA.out.here
    refine bodyPost_ret (v := .tuple #[.agg #[.slice none 0 0, .int .i64 0, .bool false], .int .i64 0, .int .i64 3]) (by simp [results, Tryz.results20, go_sem, r0, r1, r2, rl2]) rfl ⟨PA.out.below HB.out (Nat.le_refl _), .inl ⟨H1.out, rfl⟩⟩
  · have y1 := (hb1.block _ (lt_of_block HBX.out)).trans HBX.out
    have HB := Lib.hid (HA.out.trans (hb1.mono HA.out.size)); have HY := Lib.hid y1; have H1 := Lib.hid (And.intro h1 hk)
    clear hb1 y1 h1 hk HLX
    go_wp2_with (refine wpList_stS w.heap.size 2 16 none 0 0 0 false _ _ _ rfl rfl HY.out ?_; intro wa pa; have PA := Lib.hid pa; clear pa)
    obtain ⟨⟨r0, r1, r2⟩, d0, d1, d2⟩ := cellsS PA.out.here
    have rl2 := lt_of_block PA.out.here
    refine bodyPost_ret (v := .tuple #[.agg #[.slice none 0 0, .int .i64 0, .bool false], .int .i64 k, .int .i64 2]) (by simp [results, Tryz.results20, go_sem, r0, r1, r2, rl2]) rfl ⟨PA.out.below HB.out (Nat.le_refl _), .inr (.inl ⟨H1.out.1, k, H1.out.2, rfl⟩)⟩
  · have y1 := (hb1.block _ (lt_of_block HBX.out)).trans HBX.out
    have hr := row_of_lex hk h1 ht hc1 hc2
    have hfew := HF.out ts hk
    have hlen : ¬ (4001 : Int) < ((ts.length + 1 : Nat) : Int) := by omega
    have hgne : g ≠ w.heap.size := by
      intro e
      have h2 := (hr.toks 0 (by simp)).1
      rw [e] at h2
      have h3 : w1.cell? ⟨w.heap.size, 0 * 3, none⟩ = some (.slice none 0 0) := by simp [World.cell?, y1]
      rw [show (0 : Nat) * 3 = 0 from rfl] at h3
      simp at h2
      rw [h3] at h2
      simp at h2
    have HB := Lib.hid (HA.out.trans (hb1.mono HA.out.size)); have HY := Lib.hid y1; have H1 := Lib.hid (And.intro h1 hk); have HR := Lib.hid hr; have HG := Lib.hid hgne
    clear hb1 y1 h1 hk HLX ht hc1 hc2 hr hfew hgne
    generalize hN : ts.length + 1 = N at *
    have HN := Lib.hid hN
    clear hN
    go_wp2_with (refine wpList_stS w.heap.size 2 28 (some ⟨g, 0, none⟩) N c 0 false _ _ _ rfl rfl HY.out ?_; intro wa pa; have PA := Lib.hid pa; clear pa)
    have hrow : RowAt wa g N c (ts ++ [endT xs.length]) := by
      refine ⟨fun i hi => ?_, HR.out.len, HR.out.cap, HR.out.small, HR.out.row, HR.out.texts, HR.out.places⟩
      obtain ⟨t0, t1, t2⟩ := HR.out.toks i hi
      have hc : ∀ j, wa.cell? ⟨g, j, none⟩ = w1.cell? ⟨g, j, none⟩ := fun j => World.cell?_of_block (PA.out.off g HG.out)
      exact ⟨(hc _).trans t0, (hc _).trans t1, (hc _).trans t2⟩
    obtain ⟨⟨r0, r1, r2⟩, d0, d1, d2⟩ := cellsS PA.out.here
    have rl2 := lt_of_block PA.out.here
    refine bodyPost_ret (v := .tuple #[.agg #[.slice (some ⟨g, 0, none⟩) N c, .int .i64 0, .bool false], .int .i64 0, .int .i64 0]) (by simp [results, Tryz.results20, go_sem, r0, r1, r2, rl2]) rfl ⟨PA.out.below HB.out (Nat.le_refl _), .inr (.inr ⟨H1.out.1, ts, g, c, H1.out.2, by rw [HN.out], by rw [HN.out]; exact hrow⟩)⟩
end Parse
end Go.Proofs.YtadpjkehflokcaaGreatDoor
