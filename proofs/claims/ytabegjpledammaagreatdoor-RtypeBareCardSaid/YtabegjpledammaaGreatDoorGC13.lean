/-The walk of the program's Rhos of types with regions. The walk of the program's Rhos of types with regions: the whole. The document's example. The walks of the document's Great and Size of types with regions. -/
import Derived.Test.YtabegjpledammaaGreatDoorGC09
import Derived.Test.YtabegjpledammaaGreatDoorGC06
import Derived.Deep.RegionLaw
import Derived.Deep.AppendLies
import Derived.Test.YtabegjpledammaaGreatDoorGC12
import Derived.Test.YtabegjpledammaaGreatDoorGC08
import Derived.Test.YtabegjpledammaaGreatDoorGC10
import Derived.IntWalk
import Derived.StillTailTactics
namespace Go.Proofs.YtabegjpledammaaGreatDoor
open Go.RowKit
set_option linter.unusedVariables false
set_option linter.unusedSimpArgs false
namespace Rt
open Effect (At AtOk AtsAt Rd ofA ret_i64 ret_bool lt_of_block heap_alloc_new Ixs intsV tidyI rhosOf own_slice own_below own_lower)

/-- A row is appended to a row of one's own, whatever the second one is: none, or one's own. -/
theorem run_append_row {P : Program} (w : World) (t ty : TypeId) (base base2 : Nat) (e : TypeId) (i : TypeInfo) (z : Value) (bytes : Nat) (ht : P.underlying t = some (.slice e)) (hi : P.info? e = some i) (hz : i.zero = some z)
    (hsize : i.size = 1) (hby : i.bytes = bytes) (hzs : z.cells.size = 1) (v xv : Value) (n m : Nat) (xs news : List Value) (hown : w.ownsRow base e 1 v n xs) (hsrc : w.ownsRow base2 e 1 xv m news) (h1 : ∀ u ∈ news, u.oneCell' = true)
    (h63 : n + m ≤ maxLen) (hbytes : (n + m) * bytes ≤ 140737488355328) (hbase : base ≤ w.heap.size) :
    ∃ v' w', (Builtin.append_ #[t, t] ty #[v, xv]).run P w = .ok v' w' ∧ w'.ownsRow base e 1 v' (n + m) (xs ++ news) ∧ w.grownBy w' v.ownBlock ∧ (v'.ownBlock = v.ownBlock ∨ v'.ownBlock = some w.heap.size) := by
  rcases hsrc.2 with ⟨rfl, h0⟩ | ⟨g, cap, cur, rfl, hb, hg, h2, h3, h4, h5⟩
  · have hn : news = [] := by have := hsrc.1; rw [h0] at this; exact List.eq_nil_of_length_eq_zero (by omega)
    subst h0 hn
    exact ⟨v, w, run_append_owned_none w base t ty e i 1 ht hi v n xs hown, by rw [List.append_nil]; exact hown, World.grownBy.refl w _, .inl rfl⟩
  · obtain ⟨v', w', hr, h6, h7, _, h8⟩ := run_append_own_at (P := P) w base t ty e i z 1 bytes ht hi hz hsize hby hzs (by decide) v n xs hown ⟨g, 0, none⟩ m cap news (by have := hsrc.1; omega) (fun j u hu => hsrc.cells (g := g) rfl j u hu) h1 h63 hbytes hbase
    exact ⟨v', w', hr, h6, h7, h8⟩
/-- At a step of a region that draws its order. -/
theorem step_append_row {P : Program} {w : World} {ops : Array Oper} {o : Oper} {a : Act} {K : Act → World → Prop} {Q : Exit → Act → World → Prop} {E : Prop} (hgd : o.guard = none) (s x : Operand) (t : TypeId)
    (ho : o.op = .call { callee := .builtin .append, args := #[s, x], argTypes := #[t, t] })
    (base base2 : Nat) (e : TypeId) (i : TypeInfo) (z : Value) (bytes : Nat) (ht : P.underlying t = some (.slice e)) (hi : P.info? e = some i) (hz : i.zero = some z)
    (hsize : i.size = 1) (hby : i.bytes = bytes) (hzs : z.cells.size = 1) (v xv : Value) (n m : Nat) (xs news : List Value) (hs : a.eval s = v) (hx : a.eval x = xv) (hown : w.ownsRow base e 1 v n xs) (hsrc : w.ownsRow base2 e 1 xv m news) (h1 : ∀ u ∈ news, u.oneCell' = true)
    (h63 : n + m ≤ maxLen) (hbytes : (n + m) * bytes ≤ 140737488355328) (hbase : base ≤ w.heap.size)
    (h : ∀ v' w', w'.ownsRow base e 1 v' (n + m) (xs ++ news) → w.grownBy w' v.ownBlock → (v'.ownBlock = v.ownBlock ∨ v'.ownBlock = some w.heap.size) → K (a.put o.dst v') w') :
    if Region.wanted o (yielded ops a.tmps) = true then Oper.wp P o a w K Q else E := by
  have hw : Region.wanted o (yielded ops a.tmps) = true := by simp [Region.wanted, hgd]
  rw [if_pos hw]
  obtain ⟨v', w', hr, h2, h3, h4⟩ := run_append_row (P := P) w t o.type base base2 e i z bytes ht hi hz hsize hby hzs v xv n m xs news hown hsrc h1 h63 hbytes hbase
  unfold Oper.wp execOp
  simp only [ho, resolve, invoke, builtin, Sem.run_bind, Sem.run_pure, Result.andThen_ok, List.map_toArray, List.map_cons, List.map_nil, hs, hx, hr]
  exact h v' w' h2 h3 h4

theorem ixs_len {B n : Nat} {w : World} {v : Value} {l : List Int} (h : Ixs B w v n l) : l.length = n := by
  have := h.1; unfold intsV at this; rw [List.length_map] at this; omega
theorem int_one (l : List Int) : ∀ u ∈ intsV l, u.oneCell' = true := by
  intro u hu
  obtain ⟨x, _, rfl⟩ := List.mem_map.1 hu
  rfl
theorem own_int {w : World} {B n : Nat} {v : Value} {xs : List Value} (h : w.ownsRow B 3 1 v n xs) {k : Nat} (hk : ¬ IsT 3 w.heap[k]?) : some k ≠ v.ownBlock := by
  intro e
  rcases h.2 with ⟨rfl, _⟩ | ⟨g, cap, cur, rfl, _, hg, _⟩
  · simp [Value.ownBlock] at e
  · simp [Value.ownBlock] at e
    subst e
    exact hk ⟨_, _, hg⟩
def fnBox (N : Nat) : Obj := .cells #[.func (.func 40) #[] #[.pointer (some ⟨N, 0, none⟩)]] 55 (0, 0)
/-- The row's variable in block N, and the function's in block E. -/
structure RhoAt (N E n : Nat) (l : List Int) (W : World) (a : Option Addr) (c : Nat) : Prop where
  len : l.length = n
  box : W.heap[N]? = some (.cells #[.slice a n c] 41 (0, 0))
  own : Ixs (N + 1) W (.slice a n c) n l
  fn : W.heap[E]? = some (fnBox N)
theorem RhoAt.below {N E n : Nat} {l : List Int} {W W' : World} {a : Option Addr} {c : Nat} (h : RhoAt N E n l W a c) (hb : Below W.heap.size W W') : RhoAt N E n l W' a c :=
  ⟨h.len, (hb.block N (lt_of_block h.box)).trans h.box, own_below h.own hb, (hb.block E (lt_of_block h.fn)).trans h.fn⟩
theorem ints_ne : 41 ≠ 3 := by decide
/-- The row grows. -/
theorem rho_put {N E n m c : Nat} {W W1 w3 : World} {l new : List Int} {a : Option Addr} {v' : Value} (h : RhoAt N E n l W a c) (hEN : E ≠ N) (hb : Below W.heap.size W W1) (hm : new.length = m)
    (hown : w3.ownsRow (N + 1) 3 1 v' (n + m) (intsV l ++ intsV new)) (hg : W1.grownBy w3 (Value.slice a n c).ownBlock) :
    (w3.cell? ⟨N, 0, none⟩ = some (.slice a n c) ∧ w3.frozen? ⟨N, 0, none⟩ = false) ∧ (∃ a' c', v' = .slice a' (n + m) c' ∧ RhoAt N E (n + m) (l ++ new) (w3.setCell ⟨N, 0, none⟩ v') a' c') ∧ Wro 3 N W (w3.setCell ⟨N, 0, none⟩ v') := by
  have hN := lt_of_block h.box
  have hE := lt_of_block h.fn
  have hsz := hb.size
  have hnot : ∀ k, k < W.heap.size → some k ≠ (Value.slice a n c).ownBlock → w3.heap[k]? = W.heap[k]? := fun k hk hn => (hg.block k (by omega) hn).trans (hb.block k hk)
  have hnN : some N ≠ (Value.slice a n c).ownBlock := own_int h.own (by rw [h.box]; exact notT ints_ne)
  have hnE : some E ≠ (Value.slice a n c).ownBlock := own_int h.own (by rw [h.fn]; exact notT fn_ne_int)
  have b3 := (hnot N hN hnN).trans h.box
  have f3 := (hnot E hE hnE).trans h.fn
  obtain ⟨a', c', rfl, -, -⟩ := own_slice hown
  have hoth : ∀ k, k ≠ N → (w3.setCell ⟨N, 0, none⟩ (.slice a' (n + m) c')).heap[k]? = w3.heap[k]? := fun k hk => Below.heap_setCell _ _ _ _ hk
  have hsz3 : (w3.setCell ⟨N, 0, none⟩ (.slice a' (n + m) c')).heap.size = w3.heap.size := by simp [World.setCell]
  refine ⟨⟨by simp [World.cell?, b3], by simp [World.frozen?, b3]⟩, ⟨a', c', rfl, by rw [List.length_append, hm, h.len], ?_, ?_, ?_⟩, ?_⟩
  · simp [World.setCell, Array.getElem?_modify, b3]
  · unfold Ixs
    have e : intsV (l ++ new) = intsV l ++ intsV new := by unfold intsV; rw [List.map_append]
    rw [e]
    refine ⟨hown.1, hown.2.imp id ?_⟩
    rintro ⟨g, cap, cur, hv, hgN, hgg, rest⟩
    exact ⟨g, cap, cur, hv, hgN, by rw [hoth g (by omega)]; exact hgg, rest⟩
  · exact (hoth E hEN).trans f3
  · refine ⟨hg.os.trans hb.os, hg.tape.trans hb.tape, hg.output.trans hb.output, by rw [hsz3]; have := hg.size; omega, fun k hk hkN => ?_, fun k hk hkN hs => ?_⟩
    · rw [hoth k (by omega)]
      exact hnot k hk (fun e => by have := (h.own.lt k e.symm).1; omega)
    · rw [hoth k hkN]
      exact hnot k hk (own_int h.own hs)
theorem undrew {B : Nat} {w w2 : World} (h : Below B w.drew w2) : Below B w w2 := ⟨h.os, h.tape, h.output, h.size, h.block⟩
theorem tidy_one {e : List At} (hn : e.length ≤ 10000) (hx : ∀ x ∈ e, x.x.size ≤ maxLen) {W : World} {pe : Option Addr} {ne ce N : Nat} {ty : TypeId} (hN : N = W.heap.size) (he : Rd W ne pe e) :
    Calls Tryz.prog 42 #[.slice (some ⟨N, 0, none⟩) 1 1] (W.alloc (.cells #[.slice pe ne ce] ty)).drew fun en w' => ∃ a' m c', en = .returned (.slice a' m c') ∧ m ≤ 10000 ∧ Ixs (N + 1) w' (.slice a' m c') m (tidyI (rhosOf (ofA e))) ∧ Below W.heap.size W w' := by
  subst hN
  have h := Effect.rhos_walk (n := 1) (c := 1) (p := some ⟨W.heap.size, 0, none⟩) (rs := [e]) (w := (W.alloc (.cells #[.slice pe ne ce] ty)).drew) rfl (by omega) (Effect.rows_one (heap_alloc_new W _) he.len.symm ((he.below (box_new _)).below (Below.refl _ _).drew).at_) (by simpa using hn) (by simpa using hx)
  refine h.mono ?_
  rintro en w' ⟨a', m, c', rfl, h1, h2, h3⟩
  rw [show [e].flatten = e by simp] at h2
  exact ⟨a', m, c', rfl, h1, by simpa using h2, (box_new _).trans ((undrew h3).mono (by simp))⟩

set_option maxRecDepth 100000 in
set_option maxHeartbeats 6400000 in
theorem rhos1_walk (w0 : World) (N E n : Nat) (hN0 : w0.heap.size ≤ N) (l : List Int) (W : World) (h : Hd) (pe : Option Addr) (ne ce : Nat) (p : Option Addr) (lk c : Nat) (a0 : Option Addr) (c0 : Nat) (hR : RhoAt N E n l W a0 c0) (hEN : E ≠ N) (hl : n ≤ 100000000) (hne : h.e.length = ne) (hok : HdOk h) (he : EffIs w0 pe ne ce h.e) (hb0 : Below w0.heap.size w0 W) (hn : ne ≤ 10000) :
    Calls Tryz.prog 40 #[.agg #[.int .u8 h.k, .int .i64 h.r, .slice pe ne ce, .slice p lk c], .pointer (some ⟨N, 0, none⟩)] W fun en W' => en = .returned (.tuple #[]) ∧ (∃ a c n', n' ≤ n + 10001 ∧ RhoAt N E n' (l ++ rhoH h) W' a c) ∧ Wro 3 N W W' := by
  obtain ⟨i0, hi, hz0, hz2, hz3⟩ := Effect.int_parts
  have HI := Lib.hid hi; have HZ0 := Lib.hid hz0; have HZ2 := Lib.hid hz2; have HZ3 := Lib.hid hz3
  have hin := fun W => inRegion_walk h pe ne ce p lk c W
  obtain ⟨k, v, e⟩ := h
  simp only at hne he hin
  have hNl := lt_of_block hR.box
  have HR := Lib.hid hR; have HIN := Lib.hid hin; have HE := Lib.hid he; have HB0 := Lib.hid hb0; have HNE := Lib.hid hne; have HX := Lib.hid (ok_rd hok.e)
  clear hR hin he hne hok hb0 hi hz0 hz2 hz3
  go_enter Tryz.func40, Tryz.ntmps40
  go_wp2_with (fail)
  refine (HIN.out _).mono ?_
  rintro en w1 ⟨rfl, hb1⟩
  obtain ⟨b0, b1, b2, b3⟩ := box4 (N := W.heap.size) rfl hb1
  have HB1 := Lib.hid (below_then (box_new (w := W) (.cells #[.int .u8 k, .int .i64 v, .slice pe ne ce, .slice p lk c] 25)) hb1 (by simp))
  have hx1 := (hb1.block W.heap.size (by simp)).trans (heap_alloc_new W _)
  have HX1 := Lib.hid hx1
  clear hb1 hx1
  by_cases hk : k = 1
  · subst hk
    rw [show decide ((1 : Int) ≠ 1) = false from by decide]
    go_wp2_with (fail)
    go_end0
    refine ⟨rfl, ⟨a0, c0, n, by omega, ?_⟩, Wro.of_below HB1.out⟩
    rw [show rhoH ⟨1, v, e⟩ = [] from by unfold rhoH; simp, List.append_nil]
    exact HR.out.below HB1.out
  have hrh : rhoH ⟨k, v, e⟩ = [v] ++ tidyI (rhosOf (ofA e)) := by unfold rhoH; rw [if_neg hk]; rfl
  have HRH := Lib.hid hrh
  rw [show decide (k ≠ 1) = true from decide_eq_true hk]
  have hr1 := HR.out.below HB1.out
  have c1 : w1.cell? ⟨N, 0, none⟩ = some (.slice a0 n c0) := by simp [World.cell?, hr1.box]
  have hz1 := HB1.out.size
  have hown0 := fun O : Obj => own_below hr1.own (box_new O)
  have hput := fun (O : Obj) v' w3 hown hgr => rho_put (m := 1) (v' := v') (w3 := w3) hr1 hEN (box_new O) (show [v].length = 1 from rfl) hown hgr
  have hkeep := fun (O : Obj) (w3 : World) (hgr : (w1.alloc O).grownBy w3 (Value.slice a0 n c0).ownBlock) => (show w3.heap[W.heap.size]? = _ from (hgr.block W.heap.size (by simp; have := lt_of_block HX1.out; omega) (own_int hr1.own (by rw [HX1.out]; exact notT rt_ne_int))).trans (((box_new O).block _ (lt_of_block HX1.out)).trans HX1.out))
  have HOWN := Lib.hid hown0; have HPUT := Lib.hid hput; have HKEEP := Lib.hid hkeep; have HZ1 := Lib.hid hz1; have HNZ := Lib.hid (show N + 1 ≤ w1.heap.size by omega)
  clear hrh hr1 hk hz1 hown0 hput hkeep
  go_wp2_with (at_builtin; refine wpList_append_own_at _ rfl (.tmp 5) (.tmp 8) 41 rfl (N + 1) 3 i0 _ 1 8 Tryz.underlying41 HI.out HZ0.out HZ2.out HZ3.out rfl (by omega) (.slice a0 n c0) n (intsV l) rfl (HOWN.out _) ⟨w1.heap.size, 0, none⟩ 1 1 (intsV [v]) rfl rfl (Effect.new_int rfl) (by simp [intsV, Value.oneCell']) (by unfold maxLen; omega) (by omega) (by have := HNZ.out; simp; omega) ?_; intro v' w3 hown hgr hnil hat; have hp := HPUT.out _ v' w3 hown hgr; obtain ⟨⟨d0, d1⟩, ⟨a3, c3, rfl, hq⟩, hw⟩ := hp; have HQ := Lib.hid hq; have HW := Lib.hid hw; have hx3 := HKEEP.out _ w3 hgr; have HX3 := Lib.hid hx3; clear hown hgr hnil hat hq hw hx3)
  go_upto_region 3 with (fail)
  have hx4 := (Below.heap_setCell w3 ⟨N, 0, none⟩ (.slice a3 (n + 1) c3) W.heap.size (Nat.ne_of_gt hNl)).trans HX3.out
  have hw4 := (Wro.of_below HB1.out).trans HW.out
  have hz4 : w1.heap.size ≤ (w3.setCell ⟨N, 0, none⟩ (.slice a3 (n + 1) c3)).heap.size := HW.out.size
  generalize w3.setCell ⟨N, 0, none⟩ (.slice a3 (n + 1) c3) = w4 at *
  have hr4 := HQ.out
  have HX4 := Lib.hid hx4; have HW4 := Lib.hid hw4
  have he4 : EffIs w4 pe ne ce e := HE.out.below (hw4.below hN0 HB0.out (Nat.le_refl _))
  have hcall := fun ty => tidy_one (e := e) (ty := ty) (N := w4.heap.size) (W := w4) (ce := ce) (by rw [HNE.out]; exact hn) HX.out rfl he4.rd
  obtain ⟨⟨g0, g1, g2, g3⟩, -⟩ := cells4 hx4
  have p0 : w4.cell? ⟨N, 0, none⟩ = some (.slice a3 (n + 1) c3) := by simp [World.cell?, hr4.box]
  have p2 : (w4.alloc (.cells #[.slice pe ne ce] 22)).cell? ⟨N, 0, none⟩ = some (.slice a3 (n + 1) c3) := by
    rw [(box_new (w := w4) _).cell (p := ⟨N, 0, none⟩) (lt_of_block hr4.box)]; exact p0
  have p1 : w4.frozen? ⟨N, 0, none⟩ = false := by simp [World.frozen?, hr4.box]
  have HCALL := Lib.hid hcall; have HR4 := Lib.hid hr4; have HNZ4 := Lib.hid (show N + 1 ≤ w4.heap.size by have := HZ1.out; omega)
  clear hcall hr4 he4 hx4 hw4 HX3 HQ HW HKEEP HPUT HOWN b0 b1 b2 b3 c1 d0 d1
  go_region_law (first
    | (go_simp; go_at_call 42; (with_reducible refine (HCALL.out _).mono ?_); rintro en w5 ⟨a5, m5, c5, rfl, hm5, hi5, hb5⟩; have q0 : w5.cell? ⟨N, 0, none⟩ = some (.slice a3 (n + 1) c3) := by { have := (hb5.block N (lt_of_block HR4.out.box)).trans HR4.out.box; simp [World.cell?, this] }; have HM5 := Lib.hid hm5; have HI5 := Lib.hid hi5; have HB5 := Lib.hid hb5; clear hm5 hi5 hb5)
    | (refine step_append_row (by rfl) (.tmp 10) (.tmp 14) 41 (by rfl) (N + 1) (w4.heap.size + 1) 3 i0 _ 8 Tryz.underlying41 HI.out HZ0.out HZ2.out HZ3.out rfl (.slice a3 (n + 1) c3) (.slice a5 m5 c5) (n + 1) m5 (intsV (l ++ [v])) (intsV (tidyI (rhosOf (ofA e)))) (by rfl) (by rfl) (own_below HR4.out.own HB5.out) HI5.out (int_one _) (by unfold maxLen; have := HM5.out; omega) (by have := HM5.out; omega) (by have := HB5.out.size; have := HNZ4.out; omega) ?_; intro v' w6 hown6 hgr6 hat6; obtain ⟨⟨d0, d1⟩, ⟨a6, c6, rfl, hq⟩, hw⟩ := rho_put (m := m5) (v' := v') (w3 := w6) HR4.out hEN HB5.out (ixs_len HI5.out) hown6 hgr6; have HQ := Lib.hid hq; have HW := Lib.hid hw; clear hown6 hgr6 hat6 hq hw))
  all_goals
    go_wp2_with (fail)
    go_end0
    have hq := HQ.out
    have hrh := HRH.out
    rw [List.append_assoc, ← hrh] at hq
    exact ⟨rfl, ⟨a6, c6, n + 1 + m5, by have := HM5.out; omega, hq⟩, HW4.out.trans HW.out⟩
end Rt
end Go.Proofs.YtabegjpledammaaGreatDoor
namespace Go.Proofs.YtabegjpledammaaGreatDoor
open Go.RowKit
set_option linter.unusedVariables false
set_option linter.unusedSimpArgs false
namespace Rt
open Effect (At AtOk AtsAt Rd ofA ret_i64 ret_bool lt_of_block heap_alloc_new Ixs intsV tidyI rhosOf own_slice own_below own_lower)

theorem tidy_le (l : List Int) : (tidyI l).length ≤ l.length := by
  unfold tidyI
  have := Lib.compact_length_le (l.mergeSort fun x y => decide (x ≤ y))
  rw [List.length_mergeSort] at this
  exact this
theorem rhoH_le (h : Hd) : (rhoH h).length ≤ h.e.length + 1 := by
  unfold rhoH
  split
  · simp
  · rw [List.length_cons]
    have h1 := tidy_le (rhosOf (ofA h.e))
    have h2 := Effect.of_le h.e
    have h3 : (rhosOf (ofA h.e)).length ≤ (ofA h.e).length := by unfold rhosOf; rw [List.length_map]; exact List.length_filter_le _ _
    omega
theorem rho_flat : ∀ m : Nat, (∀ t, wt t ≤ m → rhoT t = (hdsT t).flatMap rhoH) ∧ (∀ ts : List RT, wts ts ≤ m → rhoK ts = (hdsK ts).flatMap rhoH) := by
  intro m
  induction m with
  | zero =>
    refine ⟨fun t h => by have := wt_pos t; omega, fun ts h => ?_⟩
    cases ts with
    | nil => rw [rhoK_nil, hdsK_nil]; rfl
    | cons t ts => rw [wts_cons] at h; have := wt_pos t; omega
  | succ m ih =>
    have hT : ∀ t, wt t ≤ m + 1 → rhoT t = (hdsT t).flatMap rhoH := by
      intro t h
      have hk := wt_ks t
      rw [rhoT_eq, hdsT_eq, List.flatMap_cons, ih.2 t.ks (by omega)]
    refine ⟨hT, fun ts => ?_⟩
    induction ts with
    | nil => intro _; rw [rhoK_nil, hdsK_nil]; rfl
    | cons t ts ihs =>
      intro h
      rw [wts_cons] at h
      rw [rhoK_cons, hdsK_cons, List.flatMap_append, hT t (by omega), ihs (by omega)]
theorem fold_flat : ∀ (l : List Hd) (a : List Int), l.foldl (fun l h => l ++ rhoH h) a = a ++ l.flatMap rhoH
  | [], a => by simp
  | h :: l, a => by rw [List.foldl_cons, fold_flat l, List.flatMap_cons, List.append_assoc]
def okR (l : List Int) (h : Hd) : Prop := l.length ≤ 100000000 ∧ h.e.length ≤ 10000
theorem eok_rho : ∀ (l : List Hd) (a : List Int), (∀ h ∈ l, h.e.length ≤ 10000) → a.length + 10001 * l.length ≤ 100000000 → EOk (fun l h => l ++ rhoH h) okR a l
  | [], a, _, _ => trivial
  | h :: l, a, hl, hn => by
    rw [List.length_cons] at hn
    have h1 := hl h (by simp)
    have h2 := rhoH_le h
    exact ⟨⟨by omega, h1⟩, eok_rho l _ (fun x hx => hl x (by simp [hx])) (by rw [List.length_append]; omega)⟩
theorem hds_all {B : Hd → Nat → Bool} {C : Hd → Prop} (hBC : ∀ h n, B h n = true → C h) : ∀ m : Nat, (∀ t, wt t ≤ m → allT B t = true → ∀ h ∈ hdsT t, C h) ∧ (∀ ts : List RT, wts ts ≤ m → allK B ts = true → ∀ h ∈ hdsK ts, C h) := by
  intro m
  induction m with
  | zero =>
    refine ⟨fun t h => by have := wt_pos t; omega, fun ts h _ => ?_⟩
    cases ts with
    | nil => rw [hdsK_nil]; intro h hh; cases hh
    | cons t ts => rw [wts_cons] at h; have := wt_pos t; omega
  | succ m ih =>
    have hT : ∀ t, wt t ≤ m + 1 → allT B t = true → ∀ h ∈ hdsT t, C h := by
      intro t h ha
      have hk := wt_ks t
      rw [allT_eq, Bool.and_eq_true] at ha
      rw [hdsT_eq]
      intro x hx
      rcases List.mem_cons.1 hx with rfl | hx
      · exact hBC _ _ ha.1
      · exact ih.2 t.ks (by omega) ha.2 x hx
    refine ⟨hT, fun ts => ?_⟩
    induction ts with
    | nil => intro _ _; rw [hdsK_nil]; intro h hh; cases hh
    | cons t ts ihs =>
      intro h ha
      rw [wts_cons] at h
      rw [allK_cons, Bool.and_eq_true] at ha
      rw [hdsK_cons]
      intro x hx
      rcases List.mem_append.1 hx with hx | hx
      · exact hT t (by omega) ha.1 x hx
      · exact ihs (by omega) ha.2 x hx

/-- What the closure keeps. -/
def InvR (N E : Nat) (l : List Int) (W : World) : Prop := ∃ n a c, RhoAt N E n l W a c
set_option maxHeartbeats 1600000 in
theorem eachRhos_walk (w0 : World) (N E : Nat) (hN0 : w0.heap.size ≤ N) (l : List Int) (W : World) (h : Hd) (pe : Option Addr) (ne ce : Nat) (p : Option Addr) (lk c : Nat) (hR : InvR N E l W) (hEN : E ≠ N) (hl : okR l h) (hne : h.e.length = ne) (hok : HdOk h) (he : EffIs w0 pe ne ce h.e) (hb0 : Below w0.heap.size w0 W) :
    Calls Tryz.prog 59 #[.agg #[.int .u8 h.k, .int .i64 h.r, .slice pe ne ce, .slice p lk c], .pointer (some ⟨E, 0, none⟩)] W fun en W' => en = .returned (.bool false) ∧ InvR N E (l ++ rhoH h) W' ∧ Wro 3 N W W' := by
  obtain ⟨n, a, c0, hR⟩ := hR
  have h1 := fun O : Obj => rhos1_walk w0 N E n hN0 l (W.alloc O) h pe ne ce p lk c a c0 (hR.below (box_new O)) hEN (by rw [← hR.len]; exact hl.1) hne hok he (below_then hb0 (box_new O) hb0.size) (by rw [← hne]; exact hl.2)
  have hfn := hR.fn
  obtain ⟨k, v, e⟩ := h
  have cE : W.cell? ⟨E, 0, none⟩ = some (.func (.func 40) #[] #[.pointer (some ⟨N, 0, none⟩)]) := by simp [World.cell?, hfn, fnBox]
  have hEl : E < W.heap.size := lt_of_block hfn
  have H1 := Lib.hid h1
  clear h1 hR hfn hl hne hok he hb0
  go_enter Tryz.func59, Tryz.ntmps59
  go_wp2_with (fail)
  refine (H1.out _).mono ?_
  rintro en w1 ⟨rfl, ⟨a', c', n', -, hc⟩, hs⟩
  have HC := Lib.hid hc; have HS := Lib.hid hs
  clear hc hs
  go_wp2_with (fail)
  go_ret
  exact ⟨rfl, ⟨n', a', c', HC.out⟩, ((Wro.refl _ _ _).alloc _).trans HS.out⟩

set_option maxRecDepth 100000 in
set_option maxHeartbeats 3200000 in
theorem rhos_walk (ts : List RT) (p : Option Addr) (l d : Nat) (w : World) (hl : ts.length = l) (hlm : l ≤ maxLen) (hk : Kids w p ts) (hw : wts ts ≤ 5000) (hef : allK (effB 10000) ts = true) :
    Calls Tryz.prog 20 #[.slice p l d] w fun e w' => ∃ a' m c', e = .returned (.slice a' m c') ∧ m ≤ 100000000 ∧ Ixs w.heap.size w' (.slice a' m c') m (tidyI (rhoK ts)) ∧ Below w.heap.size w w' := by
  have h0 : InvR w.heap.size (w.alloc (.cells #[.slice none 0 0] 41)).heap.size [] ((w.alloc (.cells #[.slice none 0 0] 41)).alloc (fnBox w.heap.size)) := by
    refine ⟨0, none, 0, rfl, ?_, World.ownsRow_nil _ _ _ _, heap_alloc_new _ _⟩
    exact ((box_new _).block _ (by simp)).trans (heap_alloc_new _ _)
  have hbb : Below w.heap.size w ((w.alloc (.cells #[.slice none 0 0] 41)).alloc (fnBox w.heap.size)) := (box_new _).trans ((box_new _).mono (by simp))
  have h1 := someEach (α := List Int) 3 w.heap.size (w.alloc (.cells #[.slice none 0 0] 41)).heap.size w rt_ne_int (Nat.le_refl _) (InvR w.heap.size (w.alloc (.cells #[.slice none 0 0] 41)).heap.size) (fun l h => l ++ rhoH h) okR
    (fun a h pe ne ce p l c W hi hok h1 h2 h3 h4 => eachRhos_walk w _ _ (Nat.le_refl _) a W h pe ne ce p l c hi (by simp) hok h2 h1 h3 h4) (fun a W O ⟨n, b, c, hi⟩ => ⟨n, b, c, hi.below (box_new O)⟩) (fun a W ⟨n, b, c, hi⟩ => lt_of_block hi.box) (wts ts) ts p l d [] _ (Nat.le_refl _) hl hlm hk hbb h0
    (eok_rho _ _ ((hds_all (C := fun h => h.e.length ≤ 10000) (fun h n hh => (eff_iff.1 hh).1) _).2 ts (Nat.le_refl _) hef) (by rw [hdsK_len, List.length_nil]; omega))
  have hflat := (rho_flat _).2 ts (Nat.le_refl _)
  have hle : (rhoK ts).length ≤ 100000000 := by
    rw [hflat]
    have : ∀ l : List Hd, (∀ h ∈ l, h.e.length ≤ 10000) → (l.flatMap rhoH).length ≤ 10001 * l.length := by
      intro l
      induction l with
      | nil => intro _; simp
      | cons h l ih => intro hl; rw [List.flatMap_cons, List.length_append, List.length_cons]; have := rhoH_le h; have := hl h (by simp); have := ih (fun x hx => hl x (by simp [hx])); omega
    have := this (hdsK ts) ((hds_all (C := fun h => h.e.length ≤ 10000) (fun h n hh => (eff_iff.1 hh).1) _).2 ts (Nat.le_refl _) hef)
    rw [hdsK_len] at this
    omega
  have h2 := each_of _ _ p l d _ (fun w' => InvR w.heap.size (w.alloc (.cells #[.slice none 0 0] 41)).heap.size (rhoK ts) w' ∧ Below w.heap.size w w') (h1.mono (by
    rintro en w' ⟨rfl, hi, hs⟩
    rw [fold_flat, List.nil_append, ← hflat] at hi
    exact ⟨rfl, hi, hs.below (Nat.le_refl _) hbb (Nat.le_refl _)⟩))
  have H2 := Lib.hid h2; have HLE := Lib.hid hle
  clear h0 h1 h2 hk hl hlm hw hbb hef hflat hle
  go_enter Tryz.func20, Tryz.ntmps20
  go_wp2_with (fail)
  refine H2.out.mono ?_
  rintro e w1 ⟨rfl, ⟨n, a, c, hr⟩, hb1⟩
  have c1 : w1.cell? ⟨w.heap.size, 0, none⟩ = some (.slice a n c) := by simp [World.cell?, hr.box]
  have hn : n ≤ 100000000 := by rw [← hr.len]; exact HLE.out
  have HB1 := Lib.hid hb1; have HR := Lib.hid hr; have HN := Lib.hid (lt_of_block hr.box)
  have HSO := Lib.hid (Effect.sortI_walk _ n c a _ w1 hr.own (by omega))
  clear hr hb1
  go_wp2_with (fail)
  refine HSO.out.mono ?_
  rintro e w2 ⟨rfl, hs2, hg2⟩
  have hge : ∀ g, (Value.slice a n c).ownBlock = some g → w.heap.size + 1 ≤ g := fun g hg => (HR.out.own.lt g hg).1
  have c2 : w2.cell? ⟨w.heap.size, 0, none⟩ = some (.slice a n c) := by
    have := (hg2.block w.heap.size HN.out (fun e => by have := hge _ e.symm; omega)).trans HR.out.box
    simp [World.cell?, this]
  have HB2 := Lib.hid (HB1.out.grown hg2 HB1.out.size fun g hg => by have := hge g hg; omega)
  have HCO := Lib.hid (Effect.compactI_walk _ n c a _ w2 hs2 (by omega))
  have HG := Lib.hid hge
  have hle2 := Lib.compact_length_le ((rhoK ts).mergeSort fun x y => decide (x ≤ y))
  rw [List.length_mergeSort] at hle2
  have hle3 := Nat.le_trans hle2 HLE.out
  have HT := Lib.hid (show tidyI (rhoK ts) = Lib.compact ((rhoK ts).mergeSort fun x y => decide (x ≤ y)) from rfl)
  generalize Lib.compact ((rhoK ts).mergeSort fun x y => decide (x ≤ y)) = q at *
  clear hs2 hg2 c1 hge hle2
  go_wp2_with (fail)
  refine HCO.out.mono ?_
  rintro e w3 ⟨rfl, hs3, hg3⟩
  have HB3 := Lib.hid (HB2.out.grown hg3 HB2.out.size fun g hg => by have := HG.out g hg; omega)
  have HS3 := Lib.hid hs3
  clear hs3 hg3
  go_wp2_with (fail)
  go_ret
  exact ⟨a, _, c, rfl, hle3, by rw [HT.out]; exact own_lower HS3.out (by omega), HB3.out⟩
end Rt
end Go.Proofs.YtabegjpledammaaGreatDoor
namespace Go.Proofs.YtabegjpledammaaGreatDoor
open Go.RowKit
set_option linter.unusedVariables false
set_option linter.unusedSimpArgs false
namespace Rt
open Effect (At AtOk AtsAt Rd ofA ret_i64 ret_bool lt_of_block heap_alloc_new textE digs NumLaid own_slice Ixs intsV tidyI rhosOf)
open Types (jb jb_list)

def rtInt : RT := .node ⟨1, 0, []⟩ []
def ex : RT := .node ⟨2, 3, []⟩ [rtInt, rtInt]
theorem wt_int : wt rtInt = 1 := by unfold rtInt; rw [wt_ks]; simp only [RT.ks]; rw [wts_nil]
theorem wt_ex : wt ex = 3 := by unfold ex; rw [wt_ks]; simp only [RT.ks]; rw [wts_cons, wts_cons, wts_nil, wt_int]
theorem may_int : mayT rtInt = true := by
  rw [mayT_eq]; unfold rtInt nodeB kidsN; simp only [RT.h, RT.ks]; rw [mayK_nil, decide_eq_true (by simp [of_nil])]; rfl
theorem may_ex : mayT ex = true := by
  rw [mayT_eq]
  unfold ex nodeB kidsN
  simp only [RT.h, RT.ks]
  have h : mayK [rtInt, rtInt] = true := by
    change allK nodeB _ = true
    rw [allK_cons, allK_cons, allK_nil, show allT nodeB rtInt = true from may_int]; rfl
  rw [h, decide_eq_true (by simp [of_nil])]; rfl
theorem eff_int (n : Nat) : allT (effB n) rtInt = true := by
  rw [allT_eq]; unfold rtInt; simp only [RT.h, RT.ks]; rw [allK_nil, Bool.and_true]; exact eff_iff.2 ⟨Nat.zero_le _, fun x hx => by cases hx⟩
theorem eff_ex (n : Nat) : allT (effB n) ex = true := by
  rw [allT_eq]; unfold ex; simp only [RT.h, RT.ks]; rw [allK_cons, allK_cons, allK_nil, eff_int]; simp only [Bool.and_true]; exact (eff_iff (n := n) (h := ⟨2, 3, []⟩) (l := 2)).2 ⟨Nat.zero_le _, fun x hx => by cases hx⟩
def exText : ByteArray := ⟨#[40, 32, 105, 110, 116, 32, 42, 32, 105, 110, 116, 32, 64, 32, 51, 32, 41]⟩
theorem w_int : wordsT rtInt = [Types.wInt] := by unfold rtInt; rw [wordsT_eq]; rfl
theorem w_ex : wordsT ex = [Types.wOpen, Types.wInt, Types.wStar, Types.wInt, wAt, digs 3, Types.wShut] := by
  unfold ex
  rw [wordsT_eq, wordsK_map]
  simp only [RT.h, RT.ks, List.map_cons, List.map_nil, w_int]
  rfl
theorem ex_text : jb (wordsT ex) = exText := by
  rw [w_ex]
  have : digs 3 = ⟨#[51]⟩ := by unfold Effect.digs Lib.itoa; rw [if_neg (by omega), Lib.decDigits_one (by decide)]; rfl
  rw [this]
  decide
theorem tidy_nil : tidyI [] = [] := by
  have h := fun x => Effect.mem_tidy [] x
  cases ht : tidyI [] with
  | nil => rfl
  | cons y l => rw [ht] at h; have := (h y).1 (by simp); cases this
theorem rho_int : rhoT rtInt = [] := by unfold rtInt; rw [rhoT_eq]; simp only [RT.h, RT.ks]; rw [rhoK_nil]; rfl
theorem rho_ex : tidyI (rhoK [ex]) = [3] := by
  have h1 : rhoK [ex] = [3] := by
    rw [rhoK_one]
    unfold ex
    rw [rhoT_eq]
    simp only [RT.h, RT.ks]
    rw [rhoK_cons, rhoK_cons, rhoK_nil, rho_int]
    unfold rhoH
    rw [if_neg (by decide), of_nil]
    show 3 :: tidyI [] ++ ([] ++ ([] ++ [])) = [3]
    rw [tidy_nil]; rfl
  rw [h1]
  have hm := fun x => Effect.mem_tidy [3] x
  have hu := Effect.up_tidy [3]
  exact Effect.upI_uniq hu (List.pairwise_singleton _ _) fun a => hm a
/-- Two kids, just laid. -/
theorem ex_kids (w : World) (ty : TypeId) (N : Nat) (hN : N = w.heap.size) :
    Kids (w.alloc (.cells #[.int .u8 1, .int .i64 0, .slice none 0 0, .slice none 0 0, .int .u8 1, .int .i64 0, .slice none 0 0, .slice none 0 0] ty)) (some ⟨N, 0, none⟩) [rtInt, rtInt] := by
  subst hN
  have hg : ∀ i, i < 2 → tget [rtInt, rtInt] i = rtInt := fun i hi => by
    have : i = 0 ∨ i = 1 := by omega
    rcases this with rfl | rfl <;> rfl
  have h0 : HdOk ⟨1, 0, []⟩ := ⟨by simp, by simp, fun x hx => by cases hx⟩
  refine .atkids _ 0 [rtInt, rtInt] (fun _ => none) (fun _ => 0) (fun _ => none) (fun _ => 0) (fun i hi => ?_) (fun i hi j v hv => ?_) (fun i hi => ?_) (fun i hi => ?_) (fun i hi => ?_)
  all_goals
    have hi2 : i < 2 := hi
    try rw [hg i hi2]
  · exact h0
  · rw [hg i hi2] at hv
    have hj : j < 4 := by
      rcases Nat.lt_or_ge j 4 with h | h
      · exact h
      · rw [List.getElem?_eq_none (by simpa [rcells] using h)] at hv; cases hv
    rw [Nat.zero_add, World.cell?_alloc_mark]
    have hi0 : i = 0 ∨ i = 1 := by omega
    have hjj : j = 0 ∨ j = 1 ∨ j = 2 ∨ j = 3 := by omega
    rcases hi0 with rfl | rfl <;> rcases hjj with rfl | rfl | rfl | rfl <;> simpa [rcells, rtInt, RT.h, RT.ks] using hv
  · exact ⟨Nat.le_refl _, by unfold maxLen; omega⟩
  · exact ⟨⟨rfl, .inl rfl, fun x hx => by cases hx⟩, Nat.le_refl _, by unfold maxLen; omega⟩
  · exact .nokids _
theorem ex_is {w : World} {N : Nat} (h : Kids w (some ⟨N, 0, none⟩) [rtInt, rtInt]) : RtIs w ⟨2, 3, []⟩ none 0 0 (some ⟨N, 0, none⟩) 2 2 ex :=
  ⟨rfl, rfl, rfl, ⟨by simp, by simp, fun x hx => by cases hx⟩, ⟨⟨rfl, .inl rfl, fun x hx => by cases hx⟩, Nat.le_refl _, by unfold maxLen; omega⟩, ⟨Nat.le_refl _, by unfold maxLen; omega⟩, h⟩
theorem ints_at {B m c : Nat} {a : Option Addr} {W : World} {x : Int} (h : Ixs B W (.slice a m c) m [x]) : m = 1 ∧ ∃ g, a = some ⟨g, 0, none⟩ ∧ g < W.heap.size ∧ W.cell? ⟨g, 0, none⟩ = some (.int .i64 x) := by
  have hl := ixs_len h
  simp at hl
  subst hl
  obtain ⟨g, rfl, _⟩ := own_at h (by omega)
  have := h.cells (g := g) rfl 0 (.int .i64 x) rfl
  rw [Addr.add_lit] at this
  exact ⟨rfl, g, rfl, (h.lt g rfl).2, this⟩

set_option maxRecDepth 100000 in
set_option maxHeartbeats 6400000 in
theorem awake_walk (w : World) (hl : NumLaid w) :
    Calls Tryz.prog 8 #[] w fun e w' => e = .returned (.bool true) ∧ Below w.heap.size w w' := by
  have hk : Kids ((w.alloc (.cells #[.int .u8 1, .int .i64 0, .slice none 0 0, .slice none 0 0] 25)).alloc (.cells #[.int .u8 1, .int .i64 0, .slice none 0 0, .slice none 0 0, .int .u8 1, .int .i64 0, .slice none 0 0, .slice none 0 0] 25)) (some ⟨w.heap.size + 1, 0, none⟩) [rtInt, rtInt] := ex_kids _ _ _ (by simp)
  have h2 := ex_is hk
  have hb0 : ∀ O, Below w.heap.size w (((w.alloc (.cells #[.int .u8 1, .int .i64 0, .slice none 0 0, .slice none 0 0] 25)).alloc (.cells #[.int .u8 1, .int .i64 0, .slice none 0 0, .slice none 0 0, .int .u8 1, .int .i64 0, .slice none 0 0, .slice none 0 0] 25)).alloc O) := fun O => (box_new _).trans (((box_new _).trans ((box_new _).mono (by simp))).mono (by simp))
  have ht := fun O => text_walk ex ⟨2, 3, []⟩ none 0 0 (some ⟨w.heap.size + 1, 0, none⟩) 2 2 _ (h2.below (box_new O)) (by rw [wt_ex]; omega) (eff_ex _) (fun _ => by rw [ex_text]; show (17 : Nat) ≤ _; omega) (hl.below (hb0 O))
  have he1 : textS ex = exText := by rw [(text_yes may_ex).1, ex_text]
  have he2 : errE ex = 0 := (text_yes may_ex).2
  have hr := fun (W : World) (hI : RtIs W ⟨2, 3, []⟩ none 0 0 (some ⟨w.heap.size + 1, 0, none⟩) 2 2 ex) (N : Nat) (hN : N = W.heap.size) => rhos_walk [ex] (some ⟨N, 0, none⟩) 1 1 (W.alloc (.cells #[.int .u8 2, .int .i64 3, .slice none 0 0, .slice (some ⟨w.heap.size + 1, 0, none⟩) 2 2] 25)) rfl one_le (kids_one hI _ _ hN) (by rw [wts_cons, wts_nil, wt_ex]; omega) (by rw [allK_one]; exact eff_ex _)
  rw [rho_ex] at hr
  have HT := Lib.hid ht; have HR := Lib.hid hr; have HE := Lib.hid (And.intro he1 he2); have HB0 := Lib.hid hb0; have H2 := Lib.hid h2
  clear hk h2 ht hr he1 he2 hl hb0
  go_enter Tryz.func8, Tryz.ntmps8
  go_wp2_with (fail)
  refine (HT.out _).mono ?_
  rintro e w1 ⟨rfl, hb1⟩
  rw [HE.out.1, HE.out.2]
  have hx : w1.heap[w.heap.size + 2]? = some (.cells #[.int .u8 2, .int .i64 3, .slice none 0 0, .slice (some ⟨w.heap.size + 1, 0, none⟩) 2 2] 25 (0, 0)) := (hb1.block (w.heap.size + 2) (by simp)).trans (by
    have := heap_alloc_new ((w.alloc (.cells #[.int .u8 1, .int .i64 0, .slice none 0 0, .slice none 0 0] 25)).alloc (.cells #[.int .u8 1, .int .i64 0, .slice none 0 0, .slice none 0 0, .int .u8 1, .int .i64 0, .slice none 0 0, .slice none 0 0] 25)) (.cells #[.int .u8 2, .int .i64 3, .slice none 0 0, .slice (some ⟨w.heap.size + 1, 0, none⟩) 2 2] 25)
    rw [show ((w.alloc (.cells #[.int .u8 1, .int .i64 0, .slice none 0 0, .slice none 0 0] 25)).alloc (.cells #[.int .u8 1, .int .i64 0, .slice none 0 0, .slice none 0 0, .int .u8 1, .int .i64 0, .slice none 0 0, .slice none 0 0] 25)).heap.size = w.heap.size + 2 from by simp] at this
    exact this)
  obtain ⟨⟨c0, c1, c2, c3⟩, -⟩ := cells4 hx
  have hbw := below_then (HB0.out _) hb1 (HB0.out _).size
  have HRR := Lib.hid (HR.out w1 ((H2.out.below (box_new _)).below hb1) _ rfl)
  have HB1 := Lib.hid hbw
  clear hx hb1 hbw
  go_wp2_with (fail)
  refine HRR.out.mono ?_
  rintro e w2 ⟨a', m, c', rfl, hm, hi, hb2⟩
  obtain ⟨rfl, g, rfl, hgl, hg⟩ := ints_at hi
  have HB2 := Lib.hid (below_then HB1.out ((box_new _).trans (hb2.mono (by simp))) HB1.out.size)
  have hs : (exText.toList == [40, 32, 105, 110, 116, 32, 42, 32, 105, 110, 116, 32, 64, 32, 51, 32, 41]) = true := by unfold exText; simp
  generalize exText = X at *
  clear hi hb2 c0 c1 c2 c3
  go_wp2_with (fail)
  go_ret
  exact ⟨rfl, HB2.out⟩
end Rt
end Go.Proofs.YtabegjpledammaaGreatDoor
namespace Go.Proofs.YtabegjpledammaaGreatDoor
open Go.RowKit
set_option linter.unusedVariables false
set_option linter.unusedSimpArgs false
namespace Rt
open Effect (At AtOk AtsAt Rd ofA greatB ret_i64 ret_bool)

set_option maxRecDepth 10000 in
set_option maxHeartbeats 3200000 in
theorem left_walk : ∀ (m : Nat) (t : RT) (h : Hd) (pe : Option Addr) (ne ce : Nat) (p : Option Addr) (l c : Nat) (n : Int) (w : World), wt t ≤ m → RtIs w h pe ne ce p l c t → 0 ≤ n → n ≤ 100 →
    Calls Tryz.prog 27 #[.agg #[.int .u8 h.k, .int .i64 h.r, .slice pe ne ce, .slice p l c], .int .i64 n] w fun e w' => e = .returned (.int .i64 (leftT t n)) ∧ Below w.heap.size w w' := by
  intro m
  induction m with
  | zero => intro t h pe ne ce p l c n w hm; have := wt_pos t; omega
  | succ m ih =>
    intro t h pe ne ce p l c n w hm hT hn0 hn1
    have hle := leftT_eq t n
    rw [hT.head] at hle
    obtain ⟨hlc, hnc⟩ := cap63 hT
    have hgr := fun O : Obj => Effect.great_walk (c := ce) (hT.eff.below (box_new O)).rd (Nat.le_trans hT.eff.cap.1 hT.eff.cap.2)
    obtain ⟨k, v, e⟩ := h
    simp only at hle hgr
    have hbox : ∀ O : Obj, Below w.heap.size w (w.alloc O) := fun O => box_new O
    have HBOX := Lib.hid hbox; have IH := Lib.hid ih; have HT := Lib.hid hT; have HM := Lib.hid hm; have HGR := Lib.hid hgr
    clear ih hT hm hbox hgr
    by_cases hg : greatB e = true
    · rw [if_pos hg] at hle
      have HLE := Lib.hid hle; have HG := Lib.hid hg
      clear hle hg
      go_enter Tryz.func27, Tryz.ntmps27
      go_wp2_with (fail)
      refine (HGR.out _).mono ?_
      rintro e1 w1 ⟨rfl, rfl⟩
      rw [HG.out]
      go_wp2_with (fail)
      go_ret
      exact ⟨ret_i64 (by rw [HLE.out]), HBOX.out _⟩
    rw [if_neg hg] at hle
    rw [Bool.not_eq_true] at hg
    have HLE := Lib.hid hle; have HG := Lib.hid hg
    clear hle hg
    go_enter Tryz.func27, Tryz.ntmps27
    go_wp2_with (fail)
    refine (HGR.out _).mono ?_
    rintro e1 w1 ⟨rfl, rfl⟩
    rw [HG.out]
    go_wp2_with (fail)
    go_loopw [1, 5] (fun N i wr => ∃ (j : Nat) (M : Int), j ≤ l ∧ i = .int .i64 j ∧ N = .int .i64 M ∧ -1 ≤ M ∧ M ≤ 100 ∧ Hid (leftK t.ks (n - 1) = leftK (t.ks.drop j) M) ∧
      Hid (Below (w.alloc (.cells #[.int .u8 k, .int .i64 v, .slice pe ne ce, .slice p l c] 25)).heap.size (w.alloc (.cells #[.int .u8 k, .int .i64 v, .slice pe ne ce, .slice p l c] 25)) wr)) (fun _ i _ => l - (intOf i).toNat)
    case atStart => exact ⟨0, n - 1, Nat.zero_le _, rfl, rfl, by omega, by omega, Lib.hid (by rw [List.drop_zero]), Lib.hid (Below.refl _ _)⟩
    case round =>
      obtain ⟨j, M, hj, rfl, rfl, hM0, hM1, HLK, HW⟩ := hrel
      obtain ⟨b0, b1, b2, b3⟩ := box4 (N := w.heap.size) rfl HW.out
      have HWW := Lib.hid ((HBOX.out _).trans (HW.out.mono (HBOX.out _).size))
      by_cases hlt : j < l
      · by_cases hneg : M < 0
        · have hr := HLK.out
          rw [leftK_neg _ _ hneg] at hr
          have HR := Lib.hid hr; clear hr
          go_wp2_with (fail)
          go_ret
          exact ⟨ret_i64 (by rw [HLE.out, HR.out]), HWW.out⟩
        · have hjk : j < t.ks.length := by rw [HT.out.len]; exact hlt
          have hst := HLK.out
          rw [leftK_step _ _ _ hjk hneg] at hst
          obtain ⟨b, o, q, c', qe, ce', rfl, hkid, c0, c1, c2, c3⟩ := (HT.out.kids.stay HWW.out).get j hjk
          have hwk := wts_get hjk
          have hwt := wt_ks t
          have hlr1 := (left_range (wt (tget t.ks j))).1 (tget t.ks j) M (Nat.le_refl _) (by omega)
          have HST := Lib.hid hst; have HK := Lib.hid hkid
          have HWK := Lib.hid hwk; have HWT := Lib.hid hwt; have HLR := Lib.hid hlr1
          clear hst hkid hwk hwt hlr1 hjk
          go_wp2_with (fail)
          refine (IH.out (tget t.ks j) _ qe _ ce' q _ c' M _ (by have := HM.out; have := HWK.out; have := HWT.out; omega) HK.out (by omega) hM1).mono ?_
          rintro e w2 ⟨rfl, hb2⟩
          have HW2 := Lib.hid (HW.out.trans (hb2.mono HW.out.size))
          clear hb2 b0 b1 b2 b3 c0 c1 c2 c3
          have hx0 : -1 ≤ leftT (tget t.ks j) M := HLR.out.1
          have hx1 : leftT (tget t.ks j) M ≤ 100 := by have := HLR.out.2; omega
          generalize hX : leftT (tget t.ks j) M = X at *
          have HX := Lib.hid hX; clear hX
          go_wp2
          go_roundw
          case rel => exact ⟨j + 1, X, by omega, by go_num, rfl, hx0, hx1, HST, HW2⟩
          case measure => simp [intOf]; omega
      · obtain rfl : j = l := by omega
        have hr := HLK.out
        rw [List.drop_eq_nil_of_le (by rw [HT.out.len]; exact Nat.le_refl _), leftK_nil] at hr
        have HR := Lib.hid hr; clear hr
        go_wp2_with (fail)
        go_ret
        exact ⟨ret_i64 (by rw [HLE.out, HR.out]), HWW.out⟩
theorem great_walk (t : RT) (h : Hd) (pe : Option Addr) (ne ce : Nat) (p : Option Addr) (l c : Nat) (w : World) (hT : RtIs w h pe ne ce p l c t) :
    Calls Tryz.prog 7 #[.agg #[.int .u8 h.k, .int .i64 h.r, .slice pe ne ce, .slice p l c]] w fun e w' => e = .returned (.bool (greatT t)) ∧ Below w.heap.size w w' := by
  obtain ⟨k, v, e⟩ := h
  have hbox : ∀ O : Obj, Below w.heap.size w (w.alloc O) := fun O => box_new O
  have HBOX := Lib.hid hbox; have HT := Lib.hid hT
  clear hT hbox
  go_enter Tryz.func7, Tryz.ntmps7
  go_wp2_with (fail)
  refine (left_walk _ t _ pe ne ce p l c 100 _ (Nat.le_refl _) (HT.out.below (HBOX.out _)) (by omega) (by omega)).mono ?_
  rintro e w1 ⟨rfl, hb⟩
  have HB := Lib.hid ((HBOX.out _).trans (hb.mono (HBOX.out _).size)); clear hb
  have hg : greatT t = decide (leftT t 100 < 0) := rfl
  have HG := Lib.hid hg; clear hg
  generalize leftT t 100 = X at *
  go_wp2
  go_ret
  exact ⟨ret_bool HG.out.symm, HB.out⟩

/-! ### Size -/
theorem wts_take_step (ts : List RT) (j : Nat) (hj : j < ts.length) : wts (ts.take (j + 1)) = wts (ts.take j) + wt (tget ts j) := by
  rw [take_tget ts j hj, wts_append, wts_cons, wts_nil]; omega
set_option maxRecDepth 10000 in
set_option maxHeartbeats 3200000 in
theorem refSize_walk : ∀ (m : Nat) (t : RT) (h : Hd) (pe : Option Addr) (ne ce : Nat) (p : Option Addr) (l c : Nat) (w : World), wt t ≤ m → m ≤ 1000000 → RtIs w h pe ne ce p l c t →
    Calls Tryz.prog 13 #[.agg #[.int .u8 h.k, .int .i64 h.r, .slice pe ne ce, .slice p l c]] w fun e w' => e = .returned (.int .i64 (wt t : Nat)) ∧ Below w.heap.size w w' := by
  intro m
  induction m with
  | zero => intro t h pe ne ce p l c w hm; have := wt_pos t; omega
  | succ m ih =>
    intro t h pe ne ce p l c w hm hmm hT
    obtain ⟨k, v, e⟩ := h
    obtain ⟨hlc, hnc⟩ := cap63 hT
    have hbox : ∀ O : Obj, Below w.heap.size w (w.alloc O) := fun O => box_new O
    have hwt := wt_ks t
    have HBOX := Lib.hid hbox; have IH := Lib.hid ih; have HT := Lib.hid hT; have HM := Lib.hid (And.intro hm hmm); have HWT := Lib.hid hwt
    clear ih hT hm hbox hwt hmm
    go_enter Tryz.func13, Tryz.ntmps13
    go_wp2_with (fail)
    go_loopw [3, 4, 8] (fun N _ i wr => ∃ (j M : Nat), j ≤ l ∧ i = .int .i64 j ∧ N = .int .i64 M ∧ M ≤ 1000000 ∧ Hid (M = wts (t.ks.take j) + 1) ∧
      Hid (Below (w.alloc (.cells #[.int .u8 k, .int .i64 v, .slice pe ne ce, .slice p l c] 25)).heap.size (w.alloc (.cells #[.int .u8 k, .int .i64 v, .slice pe ne ce, .slice p l c] 25)) wr)) (fun _ _ i _ => l - (intOf i).toNat)
    case atStart => exact ⟨0, 1, Nat.zero_le _, rfl, rfl, by omega, Lib.hid (by rw [List.take_zero, wts_nil]), Lib.hid (Below.refl _ _)⟩
    case round =>
      obtain ⟨j, M, hj, rfl, rfl, hM1, HLK, HW⟩ := hrel
      obtain ⟨b0, b1, b2, b3⟩ := box4 (N := w.heap.size) rfl HW.out
      have HWW := Lib.hid ((HBOX.out _).trans (HW.out.mono (HBOX.out _).size))
      by_cases hlt : j < l
      · have hjk : j < t.ks.length := by rw [HT.out.len]; exact hlt
        have hst := wts_take_step t.ks j hjk
        obtain ⟨b, o, q, c', qe, ce', rfl, hkid, c0, c1, c2, c3⟩ := (HT.out.kids.stay HWW.out).get j hjk
        have hwk := wts_get hjk
        have htl := wts_take_le t.ks (j + 1)
        have HST := Lib.hid hst; have HK := Lib.hid hkid
        have HWK := Lib.hid hwk; have HTL := Lib.hid htl
        clear hst hkid hwk hjk htl
        go_wp2_with (fail)
        refine (IH.out (tget t.ks j) _ qe _ ce' q _ c' _ (by have := HM.out; have := HWK.out; have := HWT.out; omega) (by have := HM.out; omega) HK.out).mono ?_
        rintro e w2 ⟨rfl, hb2⟩
        have HW2 := Lib.hid (HW.out.trans (hb2.mono HW.out.size))
        clear hb2 b0 b1 b2 b3 c0 c1 c2 c3
        have hx0 : M + wt (tget t.ks j) = wts (t.ks.take (j + 1)) + 1 := by rw [HST.out, HLK.out]; omega
        have hx1 : M + wt (tget t.ks j) ≤ 1000000 := by have := HTL.out; have := HM.out; have := HWT.out; omega
        have HX0 := Lib.hid hx0
        clear hx0
        generalize wt (tget t.ks j) = X at *
        go_wp2
        go_roundw
        case rel => exact ⟨j + 1, M + X, by omega, by go_num, by go_num, hx1, HX0, HW2⟩
        case measure => simp [intOf]; omega
      · obtain rfl : j = l := by omega
        have hr := HLK.out
        rw [List.take_of_length_le (by rw [HT.out.len]; exact Nat.le_refl _), ← HWT.out] at hr
        have HR := Lib.hid hr; clear hr
        go_wp2_with (fail)
        go_ret
        exact ⟨by rw [← HR.out]; rfl, HWW.out⟩
end Rt
end Go.Proofs.YtabegjpledammaaGreatDoor
