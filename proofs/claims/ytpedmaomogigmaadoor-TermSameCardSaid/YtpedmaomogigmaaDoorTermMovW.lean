/- The walk of a term whose places are all moved: the walk. -/
import Derived.Test.YtpedmaomogigmaaDoorTermMovM
import Derived.Deep.RegionLaw
import Derived.Deep.AppendLies
namespace Go.Proofs.YtpedmaomogigmaaDoor
open Go.RowKit
set_option linter.unusedVariables false
namespace Term

theorem undrew {B : Nat} {w w2 : World} (h : Below B w.drew w2) : Below B w w2 := ⟨h.os, h.tape, h.output, h.size, h.block⟩
theorem told_of {a0 : Option Addr} {j c0 n cap gg : Nat} {w2 : World} {O : Obj} (h : (Value.slice a0 j c0).ownBlock = some gg ∨ gg = w2.heap.size + 1) : ∀ k, (Value.slice (some ⟨gg, 0, none⟩) n cap).ownBlock = some k → (Value.slice a0 j c0).ownBlock = some k ∨ k = (w2.alloc O).heap.size := by
  intro k hk
  have hk' : gg = k := by simpa [Value.ownBlock] using hk
  rw [← hk']
  rcases h with h | h
  · exact .inl h
  · exact .inr (by rw [h]; simp)
theorem grown_keep {wr w2 w3 : World} {O : Obj} {ob : Option Nat} (hb : Below wr.heap.size wr w2) (hg : (w2.alloc O).grownBy w3 ob) : ∀ i, i < wr.heap.size → ob ≠ some i → w3.heap[i]? = wr.heap[i]? := fun i hi hn => by
  have h1 := hb.size
  rw [hg.block i (by simp; omega) (fun e => hn e.symm), Below.heap_alloc _ _ _ (by omega)]
  exact hb.block i hi

set_option maxRecDepth 100000 in
set_option maxHeartbeats 12800000 in
theorem moved_walk : ∀ (m : Nat) (t : Tm) (h : Hd) (p : Option Addr) (l c : Nat) (b : Int) (w : World), wt t ≤ m → 0 ≤ b → b + wt t ≤ 100000 → TmIs w h p l c t →
    Calls Tryd.prog 21 #[.agg #[.int .u8 h.k, .int .u8 h.op, .int .i64 h.pl, .int .i64 h.n, .string h.name, .string h.arg, .string h.exn, .slice p l c], .int .i64 b] w (MovEnd h b l t w) := by
  intro m
  induction m with
  | zero => intro t h p l c b w hm; have := wt_pos t; omega
  | succ m ih =>
    intro t h p l c b w hm hb0 hb1 hT
    obtain ⟨i0, hi0, hz0, hz1, hz2⟩ := info_parts infoTerm
    have HI0 := Lib.hid hi0; have HZ0 := Lib.hid hz0; have HZ1 := Lib.hid hz1; have HZ2 := Lib.hid hz2
    have hwt := wt_ks t
    have hlen : l ≤ wts t.ks := by
      rw [← hT.len]
      have : ∀ ts : List Tm, ts.length ≤ wts ts := fun ts => by
        induction ts with
        | nil => rw [wts_nil]; exact Nat.le_refl _
        | cons t ts ih => rw [wts_cons, List.length_cons]; have := wt_pos t; omega
      exact this _
    have hll : l ≤ 100000 := by omega
    have hb2 : b ≤ 100000 := by omega
    obtain ⟨k, op, pl, nn, nm, ar, ex⟩ := h
    have hst : MovAt w k op pl nn b nm ar ex p l c t 0 (some ⟨w.heap.size + 3, 0, none⟩) 0 [] ((((w.alloc (.cells #[.int .u8 k, .int .u8 op, .int .i64 pl, .int .i64 nn, .string nm, .string ar, .string ex, .slice p l c] 26)).alloc (.cells #[.int .u8 0, .int .u8 0, .int .i64 0, .int .i64 0, .string ⟨#[]⟩, .string ⟨#[]⟩, .string ⟨#[]⟩, .slice none 0 0] 26)).alloc (.cells #[.int .u8 k, .int .u8 op, .int .i64 b, .int .i64 nn, .string nm, .string ar, .string ex, .slice (some ⟨w.heap.size + 3, 0, none⟩) 0 0] 26)).alloc (.cells #[] 26)) := by
      obtain ⟨a1, a2, a3, a4, a5⟩ := alloc4 w (.cells #[.int .u8 k, .int .u8 op, .int .i64 pl, .int .i64 nn, .string nm, .string ar, .string ex, .slice p l c] 26) (.cells #[.int .u8 0, .int .u8 0, .int .i64 0, .int .i64 0, .string ⟨#[]⟩, .string ⟨#[]⟩, .string ⟨#[]⟩, .slice none 0 0] 26) (.cells #[.int .u8 k, .int .u8 op, .int .i64 b, .int .i64 nn, .string nm, .string ar, .string ex, .slice (some ⟨w.heap.size + 3, 0, none⟩) 0 0] 26) (.cells #[] 26)
      refine ⟨a5, a1, a2, a3, ⟨_, rfl⟩, ⟨rfl, .inr ⟨_, 0, #[], rfl, Nat.le_refl _, a4, Nat.le_refl _, by unfold maxLen; omega, rfl, rfl⟩⟩, ?_⟩
      rw [List.take_zero, movK_nil]
      rfl
    have HST := Lib.hid hst; have IH := Lib.hid ih; have HT := Lib.hid hT; have HM := Lib.hid hm; have HWT := Lib.hid hwt; have HB1 := Lib.hid hb1
    clear hst ih hT hm hwt hb1 hi0 hz0 hz1 hz2 hlen
    go_enter Tryd.func21, Tryd.ntmps21
    go_wp2_with (fail)
    go_loopw [6] (fun i wr => ∃ (j : Nat) (a : Option Addr) (c0 : Nat) (xs : List Value), j ≤ l ∧ i = .int .i64 j ∧ Hid (MovAt w k op pl nn b nm ar ex p l c t j a c0 xs wr)) (fun i _ => l - (intOf i).toNat)
    case atStart => exact ⟨0, _, _, _, Nat.zero_le _, rfl, HST⟩
    case round =>
      obtain ⟨j, a, c0, xs, hj, rfl, HA⟩ := hrel
      obtain ⟨⟨t0, t1, t2, t3, t4, t5, t6, t7⟩, _⟩ := cells8 HA.out.box
      obtain ⟨⟨o0, o1, o2, o3, o4, o5, o6, o7⟩, _, _, _, _, _, _, _, f7⟩ := cells8 HA.out.out
      by_cases hlt : j < l
      · have hjk : j < t.ks.length := by rw [HT.out.len]; exact hlt
        obtain ⟨bb, o, q, c', rfl, hkid0, z0, z1, z2, z3, z4, z5, z6, z7⟩ := HT.out.kids.get j hjk
        have hbb : bb < w.heap.size := World.block_lt_of_cell? w _ z0
        have hr := Reads.of_below HA.out.below
        have hkid := hkid0.below HA.out.below
        have hwk := wts_get hjk
        have hS : (wr.cell? ⟨w.heap.size, 7, none⟩ = some (.slice (some ⟨bb, o, none⟩) l c) ∧ wr.cell? ⟨w.heap.size + 1 + 1, 7, none⟩ = some (.slice a j c0) ∧ wr.frozen? ⟨w.heap.size + 1 + 1, 7, none⟩ = false ∧ wr.cell? ⟨bb, o + j * 8, none⟩ = some (.int .u8 (tget t.ks j).h.k) ∧ wr.cell? ⟨bb, o + j * 8 + 1, none⟩ = some (.int .u8 (tget t.ks j).h.op) ∧ wr.cell? ⟨bb, o + j * 8 + 2, none⟩ = some (.int .i64 (tget t.ks j).h.pl) ∧ wr.cell? ⟨bb, o + j * 8 + 3, none⟩ = some (.int .i64 (tget t.ks j).h.n) ∧ wr.cell? ⟨bb, o + j * 8 + 4, none⟩ = some (.string (tget t.ks j).h.name) ∧ wr.cell? ⟨bb, o + j * 8 + 5, none⟩ = some (.string (tget t.ks j).h.arg) ∧ wr.cell? ⟨bb, o + j * 8 + 6, none⟩ = some (.string (tget t.ks j).h.exn) ∧ wr.cell? ⟨bb, o + j * 8 + 7, none⟩ = some (.slice q (tget t.ks j).ks.length c')) := ⟨t7, o7, f7, hr _ _ z0, hr _ _ z1, hr _ _ z2, hr _ _ z3, hr _ _ z4, hr _ _ z5, hr _ _ z6, hr _ _ z7⟩
        have hl2 := lt_of_block HA.out.out
        have hge : ∀ g, (Value.slice a j c0).ownBlock = some g → w.heap.size + 3 ≤ g ∧ g < wr.heap.size := fun g hg => HA.out.own.lt g hg
        have hkeep : ∀ V : World, (∀ i, i < wr.heap.size → (Value.slice a j c0).ownBlock ≠ some i → V.heap[i]? = wr.heap[i]?) → (V.cell? ⟨w.heap.size, 7, none⟩ = some (.slice (some ⟨bb, o, none⟩) l c) ∧ V.cell? ⟨w.heap.size + 1 + 1, 7, none⟩ = some (.slice a j c0) ∧ V.frozen? ⟨w.heap.size + 1 + 1, 7, none⟩ = false ∧ V.cell? ⟨bb, o + j * 8, none⟩ = some (.int .u8 (tget t.ks j).h.k) ∧ V.cell? ⟨bb, o + j * 8 + 1, none⟩ = some (.int .u8 (tget t.ks j).h.op) ∧ V.cell? ⟨bb, o + j * 8 + 2, none⟩ = some (.int .i64 (tget t.ks j).h.pl) ∧ V.cell? ⟨bb, o + j * 8 + 3, none⟩ = some (.int .i64 (tget t.ks j).h.n) ∧ V.cell? ⟨bb, o + j * 8 + 4, none⟩ = some (.string (tget t.ks j).h.name) ∧ V.cell? ⟨bb, o + j * 8 + 5, none⟩ = some (.string (tget t.ks j).h.arg) ∧ V.cell? ⟨bb, o + j * 8 + 6, none⟩ = some (.string (tget t.ks j).h.exn) ∧ V.cell? ⟨bb, o + j * 8 + 7, none⟩ = some (.slice q (tget t.ks j).ks.length c')) := fun V hV => by
          obtain ⟨y1, y2, y3, y4, y5, y6, y7, y8, y9, y10, y11⟩ := hS
          have n0 : ∀ i, i < w.heap.size + 3 → (Value.slice a j c0).ownBlock ≠ some i := fun i hi e => by have := (hge i e).1; omega
          have k0 := hV w.heap.size (by omega) (n0 _ (by omega))
          have k2 := hV (w.heap.size + 1 + 1) (by omega) (n0 _ (by omega))
          have kb := hV bb (by omega) (n0 _ (by omega))
          have cc : ∀ (i off : Nat) (x : Value), V.heap[i]? = wr.heap[i]? → wr.cell? ⟨i, off, none⟩ = some x → V.cell? ⟨i, off, none⟩ = some x := fun i off x h1 h2 => by rw [World.cell?_of_block (w := wr) (a := ⟨i, off, none⟩) h1]; exact h2
          exact ⟨cc _ _ _ k0 y1, cc _ _ _ k2 y2, by rw [World.frozen?_of_block (w := wr) (a := ⟨w.heap.size + 1 + 1, 7, none⟩) k2]; exact y3, cc _ _ _ kb y4, cc _ _ _ kb y5, cc _ _ _ kb y6, cc _ _ _ kb y7, cc _ _ _ kb y8, cc _ _ _ kb y9, cc _ _ _ kb y10, cc _ _ _ kb y11⟩
        have hm1 : wt (tget t.ks j) ≤ m := by have := HM.out; have := HWT.out; omega
        have hm2 : b + 1 + wt (tget t.ks j) ≤ 100000 := by have := HB1.out; have := HWT.out; omega
        have hcall : Calls Tryd.prog 21 #[.agg #[.int .u8 (tget t.ks j).h.k, .int .u8 (tget t.ks j).h.op, .int .i64 (tget t.ks j).h.pl, .int .i64 (tget t.ks j).h.n, .string (tget t.ks j).h.name, .string (tget t.ks j).h.arg, .string (tget t.ks j).h.exn, .slice q (tget t.ks j).ks.length c'], .int .i64 (b + 1)] wr.drew (MovEnd (tget t.ks j).h (b + 1) (tget t.ks j).ks.length (tget t.ks j) wr.drew) :=
          IH.out (tget t.ks j) _ q _ c' (b + 1) wr.drew hm1 (by omega) hm2 (hkid.below (Below.refl _ _).drew)
        have hstep := fun (w2 w3 : World) hb2 q2 c2 hT2 gg cap ho3 hg3 ht3 => mov_step (w2 := w2) (w3 := w3) (hd := ⟨(tget t.ks j).h.k, (tget t.ks j).h.op, b + 1, (tget t.ks j).h.n, (tget t.ks j).h.name, (tget t.ks j).h.arg, (tget t.ks j).h.exn⟩) (q := q2) (l2 := (tget t.ks j).ks.length) (c2 := c2) (O := .cells #[.int .u8 (tget t.ks j).h.k, .int .u8 (tget t.ks j).h.op, .int .i64 (b + 1), .int .i64 (tget t.ks j).h.n, .string (tget t.ks j).h.name, .string (tget t.ks j).h.arg, .string (tget t.ks j).h.exn, .slice q2 (tget t.ks j).ks.length c2] 26) (a3 := some ⟨gg, 0, none⟩) (c3 := cap) HA.out hjk hb2 hT2 ⟨gg, rfl⟩ ho3 hg3 ht3
        have hown := HA.out.own
        have HS := Lib.hid hS; have HKEEP := Lib.hid hkeep; have HCALL := Lib.hid hcall; have HSTEP := Lib.hid hstep; have HOWN := Lib.hid hown; have HGE := Lib.hid hge; have HAB := Lib.hid HA.out.below
        have s1 : IntKind.i64.wrap (b + 1) = b + 1 := IntWalk.i64_in _ (by omega)
        have j0 : (0 : Int) ≤ (j : Int) := by omega
        have j1 : (j : Int) < (l : Int) := by omega
        clear hkid0 hkid hjk hwk z0 z1 z2 z3 z4 z5 z6 z7 hr hkeep hcall hstep hown hge hm1 hm2 hbb hl2 t0 t1 t2 t3 t4 t5 t6 o0 o1 o2 o3 o4 o5 o6 o7 f7 hS
        obtain ⟨x1, x2, x3, c0', c1, c2, c3, c4, c5, c6, c7⟩ := HS.out
        go_wp2_with (fail)
        go_region_law ((first
          | (go_simp; go_at_call 21; (with_reducible refine HCALL.out.mono ?_); rintro e w2 ⟨q2, c2, rfl, hT2, hb2d⟩; have hb2 := undrew hb2d; clear hb2d; obtain ⟨y1, y2, y3, _, _, _, _, _, _, _, _⟩ := HKEEP.out w2 (fun i hi _ => hb2.block i hi); have yl : w.heap.size + 1 + 1 < w2.heap.size := World.block_lt_of_cell? w2 _ y2; have HT2 := Lib.hid hT2; have HB2 := Lib.hid hb2; clear hT2 hb2)
          | (refine step_append_lies _ (by rfl) _ _ _ (by rfl) (w.heap.size + 3) 26 i0 _ 8 96 Tryd.underlying24 HI0.out HZ0.out HZ1.out HZ2.out rfl (by omega) (.slice a j c0) j xs (by rfl) ((own_below HOWN.out HB2.out).alloc _) ⟨w2.heap.size, 0, none⟩ 1 1 (#[.int .u8 (tget t.ks j).h.k, .int .u8 (tget t.ks j).h.op, .int .i64 (b + 1), .int .i64 (tget t.ks j).h.n, .string (tget t.ks j).h.name, .string (tget t.ks j).h.arg, .string (tget t.ks j).h.exn, .slice q2 (tget t.ks j).ks.length c2]).toList (by rfl) (by rfl) (World.news_of_block (cs := #[.int .u8 (tget t.ks j).h.k, .int .u8 (tget t.ks j).h.op, .int .i64 (b + 1), .int .i64 (tget t.ks j).h.n, .string (tget t.ks j).h.name, .string (tget t.ks j).h.arg, .string (tget t.ks j).h.exn, .slice q2 (tget t.ks j).ks.length c2]) (t := 26) (fr := (0, 0)) (heap_alloc_new w2 _)) (by simp [Value.oneCell']) (by omega) (by unfold maxLen; omega) (by omega) (by have := HB2.out.size; have := HAB.out.size; have := (lt_of_block HA.out.out); simp; omega) (w2.heap.size + 1) (by simp) ?_; intro gg cap w3 hown3 hgrow3 hat3 hlt3; have hs3 := HSTEP.out w2 w3 HB2.out q2 c2 HT2.out gg cap hown3 hgrow3 (told_of hat3); have hS4 := HKEEP.out w3 (grown_keep HB2.out hgrow3); have HS3 := Lib.hid hs3.2; obtain ⟨x1, x2, x3, _, _, _, _, _, _, _, _⟩ := hS4; clear hs3 hown3 hgrow3 hat3 hlt3 y1 y2 y3 yl)))
        all_goals
          go_wp2_with (fail)
          go_roundw
          case rel => exact ⟨j + 1, some ⟨gg, 0, none⟩, cap, _, by omega, by go_num, HS3⟩
          case measure => simp [intOf]; omega
      · obtain rfl : j = l := by omega
        have o0' : wr.cell? ⟨w.heap.size + 1 + 1, 0, none⟩ = some (.int .u8 k) := o0
        have o1' : wr.cell? ⟨w.heap.size + 1 + 1, 1, none⟩ = some (.int .u8 op) := o1
        have o2' : wr.cell? ⟨w.heap.size + 1 + 1, 2, none⟩ = some (.int .i64 b) := o2
        have o3' : wr.cell? ⟨w.heap.size + 1 + 1, 3, none⟩ = some (.int .i64 nn) := o3
        have o4' : wr.cell? ⟨w.heap.size + 1 + 1, 4, none⟩ = some (.string nm) := o4
        have o5' : wr.cell? ⟨w.heap.size + 1 + 1, 5, none⟩ = some (.string ar) := o5
        have o6' : wr.cell? ⟨w.heap.size + 1 + 1, 6, none⟩ = some (.string ex) := o6
        have o7' : wr.cell? ⟨w.heap.size + 1 + 1, 7, none⟩ = some (.slice a j c0) := o7
        obtain ⟨⟨r0, r1, r2, r3, r4, r5, r6, r7⟩, g0, g1, g2, g3, g4, g5, g6, g7⟩ := cells8 HA.out.res
        clear o0 o1 o2 o3 o4 o5 o6 o7 f7
        go_wp2_with (fail)
        have hsame : ∀ (v0 v1 v2 v3 v4 v5 v6 v7 : Value) (i : Nat), i ≠ w.heap.size + 1 → ((((((((wr.setCell ⟨w.heap.size + 1, 0, none⟩ v0).setCell ⟨w.heap.size + 1, 1, none⟩ v1).setCell ⟨w.heap.size + 1, 2, none⟩ v2).setCell ⟨w.heap.size + 1, 3, none⟩ v3).setCell ⟨w.heap.size + 1, 4, none⟩ v4).setCell ⟨w.heap.size + 1, 5, none⟩ v5).setCell ⟨w.heap.size + 1, 6, none⟩ v6).setCell ⟨w.heap.size + 1, 7, none⟩ v7).heap[i]? = wr.heap[i]? := fun v0 v1 v2 v3 v4 v5 v6 v7 i hi => by
          rw [Below.heap_setCell _ _ _ _ hi, Below.heap_setCell _ _ _ _ hi, Below.heap_setCell _ _ _ _ hi, Below.heap_setCell _ _ _ _ hi, Below.heap_setCell _ _ _ _ hi, Below.heap_setCell _ _ _ _ hi, Below.heap_setCell _ _ _ _ hi, Below.heap_setCell _ _ _ _ hi]
        have hle : ∀ off : Nat, w.heap.size ≤ (⟨w.heap.size + 1, off, none⟩ : Addr).block := fun off => by show w.heap.size ≤ w.heap.size + 1; omega
        refine bodyPost_ret (v := .agg #[.int .u8 k, .int .u8 op, .int .i64 b, .int .i64 nn, .string nm, .string ar, .string ex, .slice a j c0]) (by simp [results, Tryd.results21, go_sem, r0, r1, r2, r3, r4, r5, r6, r7]) rfl ⟨a, c0, rfl, ?_, ?_⟩
        · exact mov_done HA.out HT.out (by omega) (hsame _ _ _ _ _ _ _ _)
        · exact (((((((HA.out.below.setCell (hle _) _).setCell (hle _) _).setCell (hle _) _).setCell (hle _) _).setCell (hle _) _).setCell (hle _) _).setCell (hle _) _).setCell (hle _) _
end Term
end Go.Proofs.YtpedmaomogigmaaDoor
