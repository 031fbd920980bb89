/-Which of those that were joined may stand within themselves; which stand within others still. A row in a box grows: all but the box and the row's own block stays. A name is met. A type's variables are handed on, each in its order, to what the function (*enclave/unify.Book).within$2 does. (Written by wip/tools/uneach.py.) The names of variables that stand within what is met are met. -/
import Derived.Test.YtjchplgapaeagaaDoorGV10
import Derived.LoopTactic
namespace Go.Proofs.YtjchplgapaeagaaDoor
open Go.RowKit
set_option linter.unusedVariables false
set_option linter.unusedSimpArgs false
namespace Types

/-- What is left out. -/
def finB (n0 : Nat) (e0 : Nat → Option Ty) (g : Nat → Bool) (v : Nat) : Bool := decide (n0 ≤ v) || (tyO (e0 v)).h.k != 0 || !g v
set_option maxRecDepth 100000 in
set_option maxHeartbeats 6400000 in
theorem finite1_walk (P : Nat → Bool) (k k0 : Bk) (n n0 : Nat) (e e0 : Nat → Option Ty) (g : Nat → Bool) (N v : Nat) (W : World) (hN : W.heap[N]? = some (.cells #[.pointer (some ⟨k.b, 0, none⟩)] 28 (0, 0))) (hT : TBk P W k (some (k0, n0, e0)) n e g) (hv : v < n) :
    Calls Tryd.prog 57 #[.int .i64 (v : Int), .pointer (some ⟨N, 0, none⟩)] W fun en W' => en = .returned (.bool (finB n0 e0 g v)) ∧ Below W.heap.size W W' := by
  have hkv : KeyOk v := keyOk_of (by have := hT.me.few; omega)
  have how := own_walk P k k0 n n0 e e0 g v W hT
  have hsw := stand_walk P W k0 none n0 e0 g v ⟨hT.up.1, trivial⟩ hkv
  have hcm : cmb none e0 v = e0 v := by rw [cmb_none]
  rw [hcm] at hsw
  obtain ⟨x0, xf, xl⟩ := c1 hN
  obtain ⟨d0, d1, d2, d3, dl⟩ := bkc hT.me.box
  have HOW := Lib.hid how; have HSW := Lib.hid hsw; have HT := Lib.hid hT; have HN := Lib.hid hN; have HKV := Lib.hid hkv
  have d0' : W.cell? ⟨k.b, 0, none⟩ = some (.pointer (some ⟨k0.b, 0, none⟩)) := d0
  clear how hsw hT hN hkv hcm d0
  go_enter Tryd.func57, Tryd.ntmps57
  go_wp2_with (fail)
  refine HOW.out.mono ?_
  rintro en w1 ⟨rfl, rfl⟩
  clear HOW
  by_cases h0 : n0 ≤ v
  · have hq : finB n0 e0 g v = true := by unfold finB; rw [decide_eq_true h0]; rfl
    have hd : decide (n0 ≤ v) = true := decide_eq_true h0
    have HQ := Lib.hid hq
    rw [hd]
    clear hd hq h0
    go_wp2_with (fail)
    go_ret
    exact ⟨by rw [HQ.out]; rfl, Below.refl _ _⟩
  · have hd : decide (n0 ≤ v) = false := decide_eq_false h0
    have hq : finB n0 e0 g v = ((tyO (e0 v)).h.k != 0 || !g v) := by unfold finB; rw [hd]; rfl
    have HQ := Lib.hid hq
    rw [hd]
    clear hd hq h0
    go_wp2_with (fail)
    refine HSW.out.mono ?_
    rintro en w2 ⟨h, p, l, c, rfl, hTy, hb⟩
    have hT2 := HT.out.below hb
    obtain ⟨x0, xf, xl⟩ := c1 ((hb.block _ (lt_of_block HN.out)).trans HN.out)
    obtain ⟨d0, d1, d2, d3, dl⟩ := bkc hT2.me.box
    obtain ⟨G, hG, hGi⟩ := hT2.me.inn
    have hlk := hG.look Tryd.underlying57 (zeroBool _) (i := v) HKV.out
    have hgv : ((G v).getD (.bool false)) = .bool (g v) := by rcases hGi v with ⟨a, b⟩ | ⟨a, b⟩ <;> rw [a, b] <;> rfl
    rw [hgv] at hlk
    have HB := Lib.hid hb
    have HKH := Lib.hid (show (tyO (e0 v)).h.k = h.k by rw [hTy.head])
    clear hG hGi hgv hT2 hTy hb HSW HT HN
    have hfld : ∀ W, (Instr.field 25 (.agg #[.int .u8 h.k, .int .i64 h.v, .slice p l c]) 0).run Tryd.prog W = .ok (.int .u8 h.k) W := fun W => by kernel_rfl
    cases hk : (h.k != 0) with
    | true =>
      go_wp2_with (fail)
      go_ret
      exact ⟨by rw [HQ.out, HKH.out]; simp [hk], HB.out⟩
    | false =>
      go_wp2_with (fail)
      go_ret
      exact ⟨by rw [HQ.out, HKH.out]; simp [hk], HB.out⟩
set_option maxRecDepth 100000 in
set_option maxHeartbeats 3200000 in
theorem within3_walk (N M : Nat) (F : Nat → Option Value) (pl : Int) (v : Nat) (W : World) (hN : W.heap[N]? = some (.cells #[.map (some M)] 90 (0, 0))) (hM : MapAt W M F) (hv : KeyOk v) (hF : (F v).getD (.int .i64 0) = .int .i64 pl) :
    Calls Tryd.prog 74 #[.int .i64 (v : Int), .pointer (some ⟨N, 0, none⟩)] W fun en W' => en = .returned (.bool (decide (0 < pl))) ∧ W' = W := by
  have hlk := hM.look Tryd.underlying90 (zeroInt _) (i := v) hv
  rw [hF] at hlk
  obtain ⟨x0, xf, xl⟩ := c1 hN
  clear hM hF hN hv
  go_enter Tryd.func74, Tryd.ntmps74
  go_wp2
  go_ret
  exact ⟨rfl, rfl⟩
end Types
end Go.Proofs.YtjchplgapaeagaaDoor
namespace Go.Proofs.YtjchplgapaeagaaDoor
open Go.RowKit
set_option linter.unusedVariables false
set_option linter.unusedSimpArgs false
namespace Types

def Q4 (M s b : Nat) : Bool := decide (b ≠ M ∧ b ≠ s)
/-- The block of the row that lies in a box. -/
def rowOf (W : World) (Nm : Nat) : Option Nat := match W.cell? ⟨Nm, 0, none⟩ with
  | some v => v.ownBlock
  | none => none
structure Kr (Nm : Nat) (Q0 : Nat → Bool) (W W' : World) : Prop where
  kp : Kp (fun b => Q0 b && decide (b ≠ Nm ∧ rowOf W Nm ≠ some b)) W W'
  own : rowOf W' Nm = rowOf W Nm ∨ ∃ g, rowOf W' Nm = some g ∧ W.heap.size ≤ g
section
variable {Nm : Nat} {Q0 Q1 : Nat → Bool} {W W' W'' : World}
theorem rowOf_eq {v : Value} {ty : TypeId} (h : W.heap[Nm]? = some (.cells #[v] ty (0, 0))) : rowOf W Nm = v.ownBlock := by unfold rowOf; rw [(c1 h).1]
theorem rowOf_same (h : W'.heap[Nm]? = W.heap[Nm]?) : rowOf W' Nm = rowOf W Nm := by unfold rowOf World.cell?; rw [h]
theorem Kr.ne (h : Kr Nm Q0 W W') {b : Nat} (hb : b < W.heap.size) (hr : rowOf W Nm ≠ some b) : rowOf W' Nm ≠ some b := by
  rcases h.own with e | ⟨g, e, hg⟩
  · rw [e]; exact hr
  · rw [e]; intro q; injection q with q; omega
theorem Kr.trans (h : Kr Nm Q0 W W') (k : Kr Nm Q0 W' W'') : Kr Nm Q0 W W'' := by
  refine ⟨⟨k.kp.os.trans h.kp.os, k.kp.tape.trans h.kp.tape, k.kp.output.trans h.kp.output, Nat.le_trans h.kp.size k.kp.size, fun b hb hp => ?_⟩, ?_⟩
  · have hq := Bool.and_eq_true_iff.1 hp
    have hd := of_decide_eq_true hq.2
    exact (k.kp.block b (Nat.lt_of_lt_of_le hb h.kp.size) (Bool.and_eq_true_iff.2 ⟨hq.1, decide_eq_true ⟨hd.1, h.ne hb hd.2⟩⟩)).trans (h.kp.block b hb hp)
  · rcases k.own with e | ⟨g, e, hg⟩
    · rw [e]; exact h.own
    · exact .inr ⟨g, e, Nat.le_trans h.kp.size hg⟩
theorem Kr.mono (h : Kr Nm Q0 W W') (hq : ∀ b, Q1 b = true → Q0 b = true) : Kr Nm Q1 W W' := ⟨h.kp.mono fun b hb => Bool.and_eq_true_iff.2 ⟨hq b (Bool.and_eq_true_iff.1 hb).1, (Bool.and_eq_true_iff.1 hb).2⟩, h.own⟩
theorem Kr.off {x : Nat} (h : Kp (fun b => decide (b ≠ x)) W W') (hx : Q0 x = false) (hn : Nm ≠ x) (hl : Nm < W.heap.size) : Kr Nm Q0 W W' :=
  ⟨h.mono fun b hb => decide_eq_true fun e => (by subst e; rw [hx] at hb; cases hb), .inl (rowOf_same (h.block _ hl (decide_eq_true hn)))⟩
theorem Kr.alloc (O : Obj) (hl : Nm < W.heap.size) : Kr Nm Q0 W (W.alloc O) := ⟨Kp.of_below (al_new O), .inl (rowOf_same ((al_new O).block _ hl))⟩
/-- One is appended. -/
theorem Kr.push {v v' : Value} {ty : TypeId} (h : W.heap[Nm]? = some (.cells #[v] ty (0, 0))) (hne : v.ownBlock ≠ some Nm) (hg : W.grownBy W' v.ownBlock) (hv : v'.ownBlock = v.ownBlock ∨ v'.ownBlock = some W.heap.size) : Kr Nm Q0 W (W'.setCell ⟨Nm, 0, none⟩ v') := by
  have h' := (hg.block Nm (lt_of_block h) (fun e => hne e.symm)).trans h
  have hs : (W'.setCell ⟨Nm, 0, none⟩ v').heap[Nm]? = some (.cells #[v'] ty (0, 0)) := by simp [World.setCell, Array.getElem?_modify, h']
  refine ⟨⟨hg.os, hg.tape, hg.output, by simp [World.setCell]; exact hg.size, fun b hb hp => ?_⟩, ?_⟩
  · have hd := of_decide_eq_true (Bool.and_eq_true_iff.1 hp).2
    rw [rowOf_eq h] at hd
    exact (Below.heap_setCell _ _ _ _ hd.1).trans (hg.block b hb (fun e => hd.2 e.symm))
  · rw [rowOf_eq hs, rowOf_eq h]
    rcases hv with e | e
    · exact .inl e
    · exact .inr ⟨_, e, Nat.le_refl _⟩
/-- What is seen, beside such a row. -/
structure QOk (Nm : Nat) (Q0 Q : Nat → Bool) (W : World) : Prop where
  new : ∀ b, W.heap.size ≤ b → Q b = true
  ok : ∀ b, Q b = true → Q0 b = true ∧ b ≠ Nm ∧ rowOf W Nm ≠ some b
  lt : ∀ g, rowOf W Nm = some g → g < W.heap.size
  nm : Nm < W.heap.size
theorem QOk.alloc {Q : Nat → Bool} (h : QOk Nm Q0 Q W) (O : Obj) : QOk Nm Q0 Q (W.alloc O) := by
  have e := rowOf_same (Nm := Nm) ((al_new (W := W) O).block _ h.nm)
  have hz : (W.alloc O).heap.size = W.heap.size + 1 := by simp
  exact ⟨fun b hb => h.new b (by omega), fun b hb => by rw [e]; exact h.ok b hb, fun g hg => by rw [e] at hg; have := h.lt g hg; omega, by have := h.nm; omega⟩
/-- Over a step. -/
def QSt (Q : Nat → Bool) (W : World) (Q' : Nat → Bool) (W' : World) : Prop := Kp Q W W' ∧ ∀ b, b < W.heap.size → Q b = true → Q' b = true
theorem QSt.refl (Q : Nat → Bool) (W : World) : QSt Q W Q W := ⟨Kp.refl _ _, fun _ _ h => h⟩
theorem QSt.trans {Q Q' Q'' : Nat → Bool} (h : QSt Q W Q' W') (k : QSt Q' W' Q'' W'') : QSt Q W Q'' W'' :=
  ⟨⟨k.1.os.trans h.1.os, k.1.tape.trans h.1.tape, k.1.output.trans h.1.output, Nat.le_trans h.1.size k.1.size, fun b hb hp => (k.1.block b (Nat.lt_of_lt_of_le hb h.1.size) (h.2 b hb hp)).trans (h.1.block b hb hp)⟩, fun b hb hp => k.2 b (Nat.lt_of_lt_of_le hb h.1.size) (h.2 b hb hp)⟩
theorem QSt.alloc {Q : Nat → Bool} (O : Obj) : QSt Q W Q (W.alloc O) := ⟨Kp.of_below (al_new O), fun _ _ h => h⟩
theorem QSt.kids {Q Q' : Nat → Bool} (h : QSt Q W Q' W') {p : Option Addr} {ts : List Ty} (hk : Kids (veil Q W) p ts) : Kids (veil Q' W') p ts := hk.reads' (veil_to fun b hb hp => ⟨h.2 b hb hp, h.1.block b hb hp⟩)
theorem QOk.step {Q : Nat → Bool} (h : QOk Nm Q0 Q W) (k : Kr Nm Q0 W W') (hl : ∀ g, rowOf W' Nm = some g → g < W'.heap.size) : ∃ Q', QOk Nm Q0 Q' W' ∧ QSt Q W Q' W' := by
  refine ⟨fun b => Q b && decide (rowOf W' Nm ≠ some b), ⟨fun b hb => Bool.and_eq_true_iff.2 ⟨h.new b (Nat.le_trans k.kp.size hb), decide_eq_true fun e => by have := hl b e; omega⟩, fun b hb => ?_, hl, Nat.lt_of_lt_of_le h.nm k.kp.size⟩, k.kp.mono fun b hb => ?_, fun b hb hp => Bool.and_eq_true_iff.2 ⟨hp, decide_eq_true (k.ne hb (h.ok b hp).2.2)⟩⟩
  · have hq := Bool.and_eq_true_iff.1 hb
    exact ⟨(h.ok b hq.1).1, (h.ok b hq.1).2.1, of_decide_eq_true hq.2⟩
  · obtain ⟨a, b, c⟩ := h.ok b hb
    exact Bool.and_eq_true_iff.2 ⟨a, decide_eq_true ⟨b, c⟩⟩
end
end Types
end Go.Proofs.YtjchplgapaeagaaDoor
namespace Go.Proofs.YtjchplgapaeagaaDoor
open Go.RowKit
set_option linter.unusedVariables false
set_option linter.unusedSimpArgs false
namespace Types

theorem infoInt : (Tryd.prog.info? 3).map (fun i => (i.zero, i.size, i.bytes)) = some (some (.int .i64 0), 1, 8) := by kernel_rfl
theorem new_int {w : World} {N : Nat} {x : Int} {ty : TypeId} (hN : N = w.heap.size) (j : Nat) : ∀ u, [Value.int .i64 x][j]? = some u → (w.alloc (.cells #[.int .i64 x] ty)).cell? ((⟨N, 0, none⟩ : Addr).add j) = some u := by
  intro u hu
  subst hN
  rw [Addr.add_lit, Nat.zero_add, World.cell?_alloc_mark]
  simpa using hu
theorem one_int (x : Int) : ∀ u ∈ [Value.int .i64 x], u.oneCell' = true := by
  intro u hu
  rw [List.mem_singleton] at hu
  subst hu
  rfl
/-- Who was met, and at how many places each stands. -/
structure MeetV (B Np Nm M : Nat) (l : List Nat) (F : Nat → Option Int) (W : World) : Prop where
  xp : W.heap[Np]? = some (.cells #[.map (some M)] 90 (0, 0))
  xm : ∃ a c, W.heap[Nm]? = some (.cells #[.slice a l.length c] 31 (0, 0)) ∧ W.ownsRow B 3 1 (.slice a l.length c) l.length (ints (l.map fun v => ((v : Nat) : Int)))
  map : MapAt W M (fun i => (F i).map (Value.int .i64))
  ap : Np < B ∧ Nm < B ∧ M < B ∧ Np ≠ Nm ∧ Np ≠ M ∧ Nm ≠ M ∧ B ≤ W.heap.size
def meetL (l : List Nat) (F : Nat → Option Int) (v : Nat) : List Nat := if (F v).isSome then l else l ++ [v]
def meetF (F : Nat → Option Int) (v : Nat) (more : Int) : Nat → Option Int := upd F v (some ((F v).getD 0 + more))
theorem map_upd (F : Nat → Option Int) (v : Nat) (x : Int) : (fun i => ((upd F v (some x)) i).map (Value.int .i64)) = upd (fun i => (F i).map (Value.int .i64)) v (some (.int .i64 x)) := by
  funext i
  by_cases e : i = v
  · subst e; rw [upd_same, upd_same]; rfl
  · rw [upd_other _ _ e, upd_other _ _ e]
set_option maxRecDepth 100000 in
set_option maxHeartbeats 6400000 in
theorem within1_walk (B Np Nm M : Nat) (l : List Nat) (F : Nat → Option Int) (v : Nat) (more : Int) (W : World) (hI : MeetV B Np Nm M l F W) (hv : v < 1000000000) (hl : l.length < 1000000000) (hF : ∀ i, F i ≠ none → i < 1000000000) (hr : -4611686018427387904 ≤ (F v).getD 0 + more ∧ (F v).getD 0 + more ≤ 4611686018427387904) :
    Calls Tryd.prog 72 #[.int .i64 (v : Int), .int .i64 more, .pointer (some ⟨Np, 0, none⟩), .pointer (some ⟨Nm, 0, none⟩)] W fun en W' => en = .returned (.tuple #[]) ∧ MeetV B Np Nm M (meetL l F v) (meetF F v more) W' ∧ Kp (fun b => decide (b < B ∧ b ≠ Nm ∧ b ≠ M)) W W' ∧ Kr Nm (fun b => decide (b ≠ M)) W W' := by
  obtain ⟨i0, hi, hz0, hz1, hz2⟩ := info_parts infoInt
  obtain ⟨a, c, hxm, hown⟩ := hI.xm
  have hkv : KeyOk v := keyOk_of (by omega)
  have hlk := hI.map.look_ok Tryd.underlying90 (zeroInt _) hkv
  obtain ⟨x0, xf, xl⟩ := c1 hI.xp
  obtain ⟨y0, yf, yl⟩ := c1 hxm
  have hwr : IntKind.i64.wrap ((F v).getD 0 + more) = (F v).getD 0 + more := IntWalk.i64_in _ (by omega)
  have hFn : ∀ i, KeyOk i → ((F i).map (Value.int .i64)) ≠ none → i < 1000000000 := fun i _ hi => hF i fun e => hi (by rw [e]; rfl)
  cases hf : F v with
  | some pl =>
    rw [hf] at hlk hwr
    have hlk0 : (Instr.lookup 90 (.map (some M)) (.int .i64 (v : Int)) true).run Tryd.prog W = .ok (.tuple #[.int .i64 pl, .bool true]) W := hlk
    have hlk1 := hI.map.look Tryd.underlying90 (zeroInt _) hkv
    rw [hf] at hlk1
    have hlk2 : (Instr.lookup 90 (.map (some M)) (.int .i64 (v : Int)) false).run Tryd.prog W = .ok (.int .i64 pl) W := hlk1
    have hwr' : IntKind.i64.wrap (pl + more) = pl + more := hwr
    have HI := Lib.hid hI; have HXM := Lib.hid hxm; have HOWN := Lib.hid hown; have HFV := Lib.hid hf; have HFN := Lib.hid hFn; have HKV := Lib.hid hkv
    clear hI hxm hown hlk hlk1 hwr hFn hF hf hkv hi hz0 hz1 hz2 hr
    go_enter Tryd.func72, Tryd.ntmps72
    go_wp2_with (refine wpList_store 90 3 Tryd.underlying90 M 1000000000 v (fun i => (F i).map (Value.int .i64)) (.int .i64 (pl + more)) rfl rfl rfl HI.out.map HFN.out (by unfold maxLen; omega) HKV.out (fun w5 hm hg hs => ?_))
    have hoff : ∀ b, b ≠ M → w5.heap[b]? = W.heap[b]? := fun b hb => store_off hg hs hb
    have hap := HI.out.ap
    have hML : meetL l F v = l := by unfold meetL; rw [HFV.out]; rfl
    have hMF : meetF F v more = upd F v (some (pl + more)) := by unfold meetF; rw [HFV.out]; rfl
    refine bodyPost_end (results_none rfl _ _ _) rfl ⟨rfl, ?_, ⟨hg.os, hg.tape, hg.output, Nat.le_of_eq hs.symm, fun b hb hp => hoff b (of_decide_eq_true hp).2.2⟩, Kr.off ⟨hg.os, hg.tape, hg.output, Nat.le_of_eq hs.symm, fun b hb hp => hoff b (of_decide_eq_true hp)⟩ (decide_eq_false fun h => h rfl) hap.2.2.2.2.2.1 (lt_of_block HXM.out)⟩
    rw [hML, hMF]
    refine ⟨(hoff _ hap.2.2.2.2.1).trans HI.out.xp, ⟨a, c, (hoff _ hap.2.2.2.2.2.1).trans HXM.out, ?_⟩, by rw [map_upd]; exact hm, by omega⟩
    have hkp : Kp (fun b => decide (b ≠ M)) W w5 := ⟨hg.os, hg.tape, hg.output, Nat.le_of_eq hs.symm, fun b hb hp => hoff b (of_decide_eq_true hp)⟩
    exact own_kp HOWN.out hkp hap.2.2.1
  | none =>
    rw [hf] at hlk hwr
    have hlk0 : (Instr.lookup 90 (.map (some M)) (.int .i64 (v : Int)) true).run Tryd.prog W = .ok (.tuple #[.int .i64 0, .bool false]) W := hlk
    have hBW := hI.ap.2.2.2.2.2.2
    have hNB := hI.ap.2.1
    have HI := Lib.hid hI; have HXM := Lib.hid hxm; have HOWN := Lib.hid hown; have HFV := Lib.hid hf; have HFN := Lib.hid hFn; have HKV := Lib.hid hkv; have HINF := Lib.hid hi; have HZ0 := Lib.hid hz0; have HZ1 := Lib.hid hz1; have HZ2 := Lib.hid hz2; have HWR := Lib.hid hwr
    clear hI hxm hown hlk hwr hFn hF hf hkv hi hz0 hz1 hz2 hr
    go_enter Tryd.func72, Tryd.ntmps72
    go_upto_region 3 with (at_builtin; refine wpList_append_own_at _ rfl (.tmp 16) (.tmp 18) 31 rfl B 3 i0 _ 1 8 Tryd.underlying31 HINF.out HZ0.out HZ1.out HZ2.out rfl (by decide) (.slice a l.length c) l.length (ints (l.map fun v => ((v : Nat) : Int))) rfl (own_all HOWN.out (al_new _)) ⟨W.heap.size, 0, none⟩ 1 1 [.int .i64 (v : Int)] rfl rfl (new_int rfl) (one_int _) (by unfold maxLen; omega) (by omega) (by simp; omega) ?_; intro v' w3 hown3 hgrow3 _ hat3; obtain ⟨a3, c3, rfl, hc3, hn3⟩ := own_slice hown3; have hbl := (Below.refl B _).grown hgrow3 (by simp; omega) (fun g hg => ((own_all HOWN.out (al_new (.cells #[.int .i64 (v : Int)] 3))).lt g hg).1); have HBL := Lib.hid hbl; have HO3 := Lib.hid hown3; have HX3 := Lib.hid ((hbl.block Nm hNB).trans (((al_new _).block _ (lt_of_block HXM.out)).trans HXM.out)); obtain ⟨q0, qf, ql⟩ := c1 HX3.out; have HGR := Lib.hid hgrow3; have HAT := Lib.hid hat3; clear hown3 hgrow3 hat3 hbl hc3 hn3)
    clear q0 qf ql x0 xf xl y0 yf yl hlk0
    have hset : (w3.setCell ⟨Nm, 0, none⟩ (.slice a3 (l.length + 1) c3)).heap[Nm]? = some (.cells #[.slice a3 (l.length + 1) c3] 31 (0, 0)) := by
      have := HX3.out
      simp [World.setCell, Array.getElem?_modify, this]
    have hoff : ∀ b, b ≠ Nm → (w3.setCell ⟨Nm, 0, none⟩ (.slice a3 (l.length + 1) c3)).heap[b]? = w3.heap[b]? := fun b hb => Below.heap_setCell _ _ _ _ hb
    have hkp : Kp (fun b => decide (b ≠ Nm)) w3 (w3.setCell ⟨Nm, 0, none⟩ (.slice a3 (l.length + 1) c3)) := (Kp.refl _ _).set (by simp) 0 _
    have hsz : (w3.setCell ⟨Nm, 0, none⟩ (.slice a3 (l.length + 1) c3)).heap.size = w3.heap.size := by simp [World.setCell]
    have hap := HI.out.ap
    have hb3 : ∀ b, b < B → w3.heap[b]? = W.heap[b]? := fun b hb => (HBL.out.block b hb).trans ((al_new _).block b (by omega))
    have hM3 := HI.out.map.of_block (hb3 M hap.2.2.1)
    have hlt3 := HBL.out.size
    have hkr : Kr Nm (fun b => decide (b ≠ M)) W (w3.setCell ⟨Nm, 0, none⟩ (.slice a3 (l.length + 1) c3)) := (Kr.alloc (.cells #[.int .i64 (v : Int)] 3) (lt_of_block HXM.out)).trans (Kr.push (((al_new _).block _ (lt_of_block HXM.out)).trans HXM.out) (fun e => by have := (HOWN.out.lt _ e).1; omega) HGR.out HAT.out)
    have HKR := Lib.hid hkr
    clear hkr HGR HAT
    generalize w3.setCell ⟨Nm, 0, none⟩ (.slice a3 (l.length + 1) c3) = w4 at *
    have hM4 := hM3.of_block (hoff M (fun e => hap.2.2.2.2.2.1 e.symm))
    have hO4 := own_kp HO3.out hkp hNB
    have hxp4 := (hoff Np hap.2.2.2.1).trans ((hb3 Np hap.1).trans HI.out.xp)
    obtain ⟨x0, xf, xl⟩ := c1 hxp4
    have hlk1 := hM4.look Tryd.underlying90 (zeroInt _) HKV.out
    rw [HFV.out] at hlk1
    have hlk2 : (Instr.lookup 90 (.map (some M)) (.int .i64 (v : Int)) false).run Tryd.prog w4 = .ok (.int .i64 0) w4 := hlk1
    have hwr' : IntKind.i64.wrap (0 + more) = 0 + more := HWR.out
    have hwr2 : IntKind.i64.wrap more = more := by rw [Int.zero_add] at hwr'; exact hwr'
    have HSET := Lib.hid hset; have HM4 := Lib.hid hM4; have HO4 := Lib.hid hO4; have HXP4 := Lib.hid hxp4; have HALL := Lib.hid (And.intro hoff (And.intro hb3 (And.intro hkp (And.intro hsz hap)))); have HL3 := Lib.hid hlt3
    clear hset hoff hkp hsz hap hb3 hM3 hM4 hO4 hxp4 hlk1 hlt3
    go_wp2_with (refine wpList_store 90 3 Tryd.underlying90 M 1000000000 v (fun i => (F i).map (Value.int .i64)) (.int .i64 (0 + more)) rfl rfl (by go_simp) HM4.out HFN.out (by unfold maxLen; omega) HKV.out (fun w5 hm hg hs => ?_))
    obtain ⟨hoff, hb3, hkp, hsz, hap⟩ := HALL.out
    have hl3 : W.heap.size + 1 ≤ w3.heap.size := by have := HL3.out; simpa using this
    have hoff5 : ∀ b, b ≠ M → w5.heap[b]? = w4.heap[b]? := fun b hb => store_off hg hs hb
    have hkp5 : Kp (fun b => decide (b ≠ M)) w4 w5 := ⟨hg.os, hg.tape, hg.output, Nat.le_of_eq hs.symm, fun b hb hp => hoff5 b (of_decide_eq_true hp)⟩
    have hML : meetL l F v = l ++ [v] := by unfold meetL; rw [HFV.out]; rfl
    have hMF : meetF F v more = upd F v (some (0 + more)) := by unfold meetF; rw [HFV.out]; rfl
    have hO5 := own_kp HO4.out hkp5 hap.2.2.1
    have hin : ints (l.map fun v => ((v : Nat) : Int)) ++ [.int .i64 (v : Int)] = ints ((l ++ [v]).map fun v => ((v : Nat) : Int)) := by unfold ints; simp
    rw [hin] at hO5
    refine bodyPost_end (results_none rfl _ _ _) rfl ⟨rfl, ?_, ⟨hg.os.trans (hkp.os.trans HBL.out.os), hg.tape.trans (hkp.tape.trans HBL.out.tape), hg.output.trans (hkp.output.trans HBL.out.output), by omega, fun b hb hp => (hoff5 b (of_decide_eq_true hp).2.2).trans ((hoff b (of_decide_eq_true hp).2.1).trans (hb3 b (of_decide_eq_true hp).1))⟩, HKR.out.trans (Kr.off hkp5 (decide_eq_false fun h => h rfl) hap.2.2.2.2.2.1 (by omega))⟩
    rw [hML, hMF]
    refine ⟨(hoff5 _ hap.2.2.2.2.1).trans HXP4.out, ⟨a3, c3, ?_, ?_⟩, by rw [map_upd]; exact hm, by omega⟩
    · rw [List.length_append]; exact (hoff5 _ hap.2.2.2.2.2.1).trans HSET.out
    · rw [List.length_append]; exact hO5
end Types
end Go.Proofs.YtjchplgapaeagaaDoor
namespace Go.Proofs.YtjchplgapaeagaaDoor
open Go.RowKit
set_option linter.unusedVariables false
set_option linter.unusedSimpArgs false
namespace Types

set_option maxRecDepth 100000 in
set_option maxHeartbeats 6400000 in
theorem eachW2 {α : Type} (k1 k2 : Value) (Inv : α → (Nat → Bool) → World → Prop) (step : α → Int → α) (ok : α → Int → Prop)
    (hC : ∀ a v Q W, Inv a Q W → ok a v → Calls Tryd.prog 73 #[.int .i64 v, k1, k2] W fun en W' => en = .returned (.tuple #[]) ∧ ∃ Q', Inv (step a v) Q' W' ∧ QSt Q W Q' W')
    (hI : ∀ a Q W O, Inv a Q W → Inv a Q (W.alloc O)) (hQ : ∀ a Q W, Inv a Q W → ∀ b, W.heap.size ≤ b → Q b = true) :
    ∀ (m : Nat) (ts : List Ty) (p : Option Addr) (l d : Nat) (a : α) (Q : Nat → Bool) (w : World), wts ts ≤ m → ts.length = l → l ≤ maxLen → Kids (veil Q w) p ts → Inv a Q w → EOk step ok a (evK ts) →
    Calls Tryd.prog 47 #[.func (.func 73) #[] #[k1, k2], .slice p l d] w fun en w' => en = .returned (.tuple #[]) ∧ ∃ Q', Inv ((evK ts).foldl step a) Q' w' ∧ QSt Q w Q' w' := by
  intro m
  induction m using Nat.strongRecOn with
  | _ m ih =>
    intro ts p l d a Q w hm hl hlm hk hi hok
    unfold maxLen at hlm
    have HM := Lib.hid hm; have HL := Lib.hid hl; have HKI := Lib.hid hk; have HIN := Lib.hid hi; have HOK := Lib.hid hok; have IH := Lib.hid ih; have HC := Lib.hid hC; have HI := Lib.hid hI; have HQ := Lib.hid hQ
    clear hm hl hk hi hok ih hC hI hQ
    go_enter Tryd.func47, Tryd.ntmps47
    go_wp2_with (fail)
    go_loopw [8] (fun i wr => ∃ (j : Nat) (b : α) (Qb : Nat → Bool), j ≤ l ∧ i = .int .i64 j ∧ Hid (Inv b Qb wr) ∧ Hid ((evK ts).foldl step a = (evK (ts.drop j)).foldl step b) ∧ Hid (EOk step ok b (evK (ts.drop j))) ∧ Hid (QSt Q w Qb wr)) (fun i _ => l - (intOf i).toNat)
    case atStart => exact ⟨0, a, Q, Nat.zero_le _, rfl, HIN, Lib.hid (by rw [List.drop_zero]), Lib.hid (by rw [List.drop_zero]; exact HOK.out), Lib.hid (QSt.refl _ _)⟩
    case round =>
      obtain ⟨j, b, Qb, hj, rfl, HB, HF, HO, HK⟩ := hrel
      by_cases hlt : j < l
      · have hjk : j < ts.length := by rw [HL.out]; exact hlt
        have hkr := HK.out.kids HKI.out
        obtain ⟨bb, o, q, c', rfl, hkid, e0, e1, e2⟩ := hkr.get j hjk
        have c0 := (veil_seen e0).2
        have c1 := (veil_seen e1).2
        have c2 := (veil_seen e2).2
        have hwm : wts (tget ts j).ks < wts ts := by have h1 := wts_get hjk; have h2 := wt_ks (tget ts j); omega
        have hnew : Qb wr.heap.size = true := HQ.out _ _ _ HB.out _ (Nat.le_refl _)
        have hev := evK_drop ts j hjk
        have HJK := Lib.hid hjk; have HKID := Lib.hid hkid; have HWM := Lib.hid hwm; have HN := Lib.hid hnew; have HEV := Lib.hid hev
        have HB1 := Lib.hid (HI.out b Qb wr (.cells #[.int .u8 (tget ts j).h.k, .int .i64 (tget ts j).h.v, .slice q (tget ts j).ks.length c'] 25) HB.out)
        have HX := Lib.hid (heap_alloc_new wr (.cells #[.int .u8 (tget ts j).h.k, .int .i64 (tget ts j).h.v, .slice q (tget ts j).ks.length c'] 25))
        clear hjk hkr hkid hwm hnew hev e0 e1 e2 HB
        by_cases h5 : (tget ts j).h.k = 5
        · have h5' : ((tget ts j).h.k == 5) = true := by rw [h5]; rfl
          have hevt := HEV.out
          rw [evT_eq, if_pos h5] at hevt
          have ho := HO.out
          rw [hevt] at ho
          have HF2 := Lib.hid (HF.out.trans (by rw [hevt]; rfl : _ = (evK (tget ts j).ks ++ evK (ts.drop (j + 1))).foldl step (step b (tget ts j).h.v)))
          have HO1 := Lib.hid ho.1; have HO2 := Lib.hid (show EOk step ok (step b (tget ts j).h.v) (evK (tget ts j).ks ++ evK (ts.drop (j + 1))) from ho.2)
          have hcc := HC.out b (tget ts j).h.v Qb _ HB1.out HO1.out
          have HCC := Lib.hid hcc
          clear hevt ho h5 hcc HF HO
          go_wp2_with (fail)
          refine HCC.out.mono ?_
          rintro en w1 ⟨rfl, Q1, hi1, hk1⟩
          have hx1 := (hk1.1.block _ (lt_of_block HX.out) HN.out).trans HX.out
          obtain ⟨⟨g0, g1, g2⟩, -, gl⟩ := c3 hx1
          have HK1 := Lib.hid ((HK.out.trans (QSt.alloc _)).trans hk1)
          have HI1 := Lib.hid hi1
          have hsp := eok_append HO2.out
          have HS1 := Lib.hid hsp.1; have HS2 := Lib.hid hsp.2
          have hih := IH.out (wts (tget ts j).ks) (by have := HWM.out; have := HM.out; omega) (tget ts j).ks q _ c' _ Q1 w1 (Nat.le_refl _) rfl (Nat.le_trans HKID.out.cap.1 HKID.out.cap.2) (((QSt.alloc _).trans hk1).kids HKID.out.kids) HI1.out HS1.out
          have HIH := Lib.hid hih
          clear hx1 hi1 hk1 hsp hih c0 c1 c2 h5'
          go_wp2_with (fail)
          refine HIH.out.mono ?_
          rintro en w2 ⟨rfl, Q2, hi2, hk2⟩
          have HK2 := Lib.hid (HK1.out.trans hk2); have HI2 := Lib.hid hi2
          clear hi2 hk2 g0 g1 g2 gl
          go_wp2_with (fail)
          go_roundw
          case rel => exact ⟨j + 1, _, _, by omega, by go_num, HI2, Lib.hid (by rw [HF2.out, List.foldl_append]), HS2, HK2⟩
          case measure => simp [intOf]; omega
        · have h5' : ((tget ts j).h.k == 5) = false := beq_eq_false_iff_ne.2 h5
          have hevt := HEV.out
          rw [evT_eq, if_neg h5, List.nil_append] at hevt
          have ho := HO.out
          rw [hevt] at ho
          have HF2 := Lib.hid (HF.out.trans (by rw [hevt] : _ = (evK (tget ts j).ks ++ evK (ts.drop (j + 1))).foldl step b))
          have hsp := eok_append ho
          have HS1 := Lib.hid hsp.1; have HS2 := Lib.hid hsp.2
          have hk1 := HK.out.trans (QSt.alloc (.cells #[.int .u8 (tget ts j).h.k, .int .i64 (tget ts j).h.v, .slice q (tget ts j).ks.length c'] 25))
          have HK1 := Lib.hid hk1
          have hih := IH.out (wts (tget ts j).ks) (by have := HWM.out; have := HM.out; omega) (tget ts j).ks q _ c' b Qb (wr.alloc (.cells #[.int .u8 (tget ts j).h.k, .int .i64 (tget ts j).h.v, .slice q (tget ts j).ks.length c'] 25)) (Nat.le_refl _) rfl (Nat.le_trans HKID.out.cap.1 HKID.out.cap.2) ((QSt.alloc _).kids HKID.out.kids) HB1.out HS1.out
          have HIH := Lib.hid hih
          clear hevt ho h5 hsp hk1 hih HF HO
          go_wp2_with (fail)
          refine HIH.out.mono ?_
          rintro en w2 ⟨rfl, Q2, hi2, hk2⟩
          have HK2 := Lib.hid (HK1.out.trans hk2); have HI2 := Lib.hid hi2
          clear hi2 hk2 c0 c1 c2
          go_wp2_with (fail)
          go_roundw
          case rel => exact ⟨j + 1, _, _, by omega, by go_num, HI2, Lib.hid (by rw [HF2.out, List.foldl_append]), HS2, HK2⟩
          case measure => simp [intOf]; omega
      · obtain rfl : j = l := by omega
        have hr := HF.out
        rw [List.drop_eq_nil_of_le (by rw [HL.out]; exact Nat.le_refl _), evK_nil] at hr
        have HR := Lib.hid (show Inv ((evK ts).foldl step a) Qb wr by rw [hr]; exact HB.out)
        clear hr
        go_wp2_with (fail)
        exact bodyPost_end (results_none rfl _ _ _) rfl ⟨rfl, Qb, HR.out, HK.out⟩
end Types
end Go.Proofs.YtjchplgapaeagaaDoor
namespace Go.Proofs.YtjchplgapaeagaaDoor
open Go.RowKit
set_option linter.unusedVariables false
set_option linter.unusedSimpArgs false
namespace Types

theorem MeetV.kept {B Np Nm M : Nat} {l : List Nat} {F : Nat → Option Int} {W W' : World} (h : MeetV B Np Nm M l F W) {x : Nat} (hk : Kp (fun b => decide (b ≠ x)) W W') (hx : x < B) (h1 : x ≠ Np ∧ x ≠ Nm ∧ x ≠ M) : MeetV B Np Nm M l F W' := by
  obtain ⟨a, c, q1, q2⟩ := h.xm
  have hap := h.ap
  have hz := hk.size
  exact ⟨(hk.block _ (lt_of_block h.xp) (decide_eq_true fun e => h1.1 e.symm)).trans h.xp, ⟨a, c, (hk.block _ (lt_of_block q1) (decide_eq_true fun e => h1.2.1 e.symm)).trans q1, own_kp q2 hk hx⟩, h.map.of_block (hk.block _ h.map.lt (decide_eq_true fun e => h1.2.2 e.symm)), by omega⟩
theorem MeetV.alloc {B Np Nm M : Nat} {l : List Nat} {F : Nat → Option Int} {W : World} (h : MeetV B Np Nm M l F W) (O : Obj) : MeetV B Np Nm M l F (W.alloc O) := by
  obtain ⟨a, c, q1, q2⟩ := h.xm
  have hap := h.ap
  have b1 := al_new (W := W) O
  exact ⟨(b1.block _ (lt_of_block h.xp)).trans h.xp, ⟨a, c, (b1.block _ (lt_of_block q1)).trans q1, own_all q2 b1⟩, h.map.of_block (b1.block _ h.map.lt), by simp; omega⟩
/-- What within$2 relies on. -/
structure W2V (P : Nat → Bool) (k : Bk) (u : Up) (n : Nat) (g : Nat → Bool) (nm : Nat → Nat) (st : Nat → Option Ty) (B Np Nm M N1 N2 : Nat) (s : List Nat × (Nat → Option Int)) (W : World) : Prop where
  meet : MeetV B Np Nm M s.1 s.2 W
  f : W.heap[N1]? = some (.cells #[.func (.func 72) #[] #[.pointer (some ⟨Np, 0, none⟩), .pointer (some ⟨Nm, 0, none⟩)]] 105 (0, 0))
  b : W.heap[N2]? = some (.cells #[.pointer (some ⟨k.b, 0, none⟩)] 28 (0, 0))
  book : ∃ e, TBk P W k u n e g ∧ Rep (cmb u e) nm st
theorem W2V.alloc {P : Nat → Bool} {k : Bk} {u : Up} {n : Nat} {g : Nat → Bool} {nm : Nat → Nat} {st : Nat → Option Ty} {B Np Nm M N1 N2 : Nat} {s : List Nat × (Nat → Option Int)} {W : World} (h : W2V P k u n g nm st B Np Nm M N1 N2 s W) (O : Obj) : W2V P k u n g nm st B Np Nm M N1 N2 s (W.alloc O) := by
  obtain ⟨e, h2, h3⟩ := h.book
  exact ⟨h.meet.alloc O, ((al_new _).block _ (lt_of_block h.f)).trans h.f, ((al_new _).block _ (lt_of_block h.b)).trans h.b, ⟨e, h2.below (al_new _), h3⟩⟩
/-- One is met. -/
def meetS (nm : Nat → Nat) (more : Int) (s : List Nat × (Nat → Option Int)) (v : Nat) : List Nat × (Nat → Option Int) := (meetL s.1 s.2 (nm v), meetF s.2 (nm v) more)
/-- What lies apart. -/
structure W2A (P : Nat → Bool) (k : Bk) (u : Up) (B Np Nm M N1 N2 : Nat) : Prop where
  lt : N1 < B ∧ N2 < B ∧ k.b < B ∧ k.s < B ∧ k.i < B
  n1 : N1 ≠ Nm ∧ N1 ≠ M ∧ N1 ≠ k.s
  n2 : N2 ≠ Nm ∧ N2 ≠ M ∧ N2 ≠ k.s
  ks : k.s ≠ Np ∧ k.s ≠ Nm ∧ k.s ≠ M
  kb : k.b ≠ Nm ∧ k.b ≠ M ∧ k.i ≠ Nm ∧ k.i ≠ M
  up : ∀ x, u = some x → x.1.b < B ∧ x.1.s < B ∧ x.1.b ≠ Nm ∧ x.1.b ≠ M ∧ x.1.s ≠ Nm ∧ x.1.s ≠ M
  P : ∀ b, P b = true → b < B ∧ b ≠ Nm ∧ b ≠ M
set_option maxRecDepth 100000 in
set_option maxHeartbeats 6400000 in
theorem within2_walk (P : Nat → Bool) (k : Bk) (u : Up) (n : Nat) (g : Nat → Bool) (nm : Nat → Nat) (st : Nat → Option Ty) (B Np Nm M N1 N2 : Nat) (s : List Nat × (Nat → Option Int)) (v : Nat) (W : World) (hI : W2V P k u n g nm st B Np Nm M N1 N2 s W) (hA : W2A P k u B Np Nm M N1 N2) (hv : v < n)
    (hl : s.1.length < 1000000000) (hF : ∀ i, s.2 i ≠ none → i < 1000000000) (hr : -4611686018427387904 ≤ (s.2 (nm v)).getD 0 + 1 ∧ (s.2 (nm v)).getD 0 + 1 ≤ 4611686018427387904) :
    Calls Tryd.prog 73 #[.int .i64 (v : Int), .pointer (some ⟨N1, 0, none⟩), .pointer (some ⟨N2, 0, none⟩)] W fun en W' => en = .returned (.tuple #[]) ∧ W2V P k u n g nm st B Np Nm M N1 N2 (meetS nm 1 s v) W' ∧ Kp (fun b => decide (b < B ∧ b ≠ Nm ∧ b ≠ M ∧ b ≠ k.s)) W W' ∧ Kr Nm (Q4 M k.s) W W' := by
  obtain ⟨e, hT, hR⟩ := hI.book
  have hnw := name_walk P k u n e g nm st v W.drew (hT.below ⟨rfl, rfl, rfl, Nat.le_refl _, fun _ _ => rfl⟩) hR hv
  have hvn : nm v < 1000000000 := by have := hR.le v; have := hT.me.few; omega
  have HI := Lib.hid hI; have HA := Lib.hid hA; have HNW := Lib.hid hnw; have HL := Lib.hid (And.intro hl (And.intro hF (And.intro hr hvn)))
  clear hI hA hnw hl hF hr hT hR hvn
  go_enter Tryd.func73, Tryd.ntmps73
  go_upto_region 0 with (fail)
  refine wp_region_held_drew (S := fun V => ∀ b, (b = N1 ∨ b = N2) → V.heap[b]? = W.heap[b]?) (by kernel_rfl) (fun _ _ => rfl) (fun hHeld => ?_)
  refine wpAnyH_take (i := 0) (v := .func (.func 72) #[] #[.pointer (some ⟨Np, 0, none⟩), .pointer (some ⟨Nm, 0, none⟩)]) rfl (by kernel_rfl) (by kernel_rfl) (by kernel_rfl) (fun _ _ _ h => h) (Or.inl ⟨by rfl, ?_⟩) (by assumption) ?_
  · intro w' hSw
    obtain ⟨d0, -, dl⟩ := c1 ((hSw _ (.inl rfl)).trans HI.out.f)
    first | (go_simp; done) | rfl
  try simp only [Act.put, List.getElem_toArray, List.getElem_cons_succ, List.getElem_cons_zero, List.setIfInBounds_toArray, List.set_cons_zero, List.set_cons_succ]
  refine wpAnyH_take (i := 1) (v := .pointer (some ⟨k.b, 0, none⟩)) rfl (by kernel_rfl) (by kernel_rfl) (by kernel_rfl) (fun _ _ _ h => h) (Or.inl ⟨by rfl, ?_⟩) (by assumption) ?_
  · intro w' hSw
    obtain ⟨d0, -, dl⟩ := c1 ((hSw _ (.inr rfl)).trans HI.out.b)
    first | (go_simp; done) | rfl
  try simp only [Act.put, List.getElem_toArray, List.getElem_cons_succ, List.getElem_cons_zero, List.setIfInBounds_toArray, List.set_cons_zero, List.set_cons_succ]
  refine wpAnyH_take (i := 2) (v := .int .i64 (v : Int)) rfl (by kernel_rfl) (by kernel_rfl) (by kernel_rfl) (fun _ _ _ h => h) (Or.inl ⟨by rfl, ?_⟩) (by assumption) ?_
  · intro w' hSw
    first | (go_simp; done) | rfl
  try simp only [Act.put, List.getElem_toArray, List.getElem_cons_succ, List.getElem_cons_zero, List.setIfInBounds_toArray, List.set_cons_zero, List.set_cons_succ]
  refine wpAnyH_ready (rs := [3]) (by kernel_rfl) (by simp) ?_
  refine AllReadyH.cons rfl (fun K hK => ?_) AllReadyH.nil
  have HK2 := Lib.hid hK
  clear hK
  try rw [if_pos (by rfl)]
  go_simp
  refine HNW.out.mono ?_
  rintro en w1 ⟨rfl, e1, hT1, hR1, hk1⟩
  have hk1' : Kp (fun b => decide (b ≠ k.s)) W w1 := ⟨hk1.os, hk1.tape, hk1.output, hk1.size, hk1.block⟩
  have hm1 := HI.out.meet.kept hk1' HA.out.lt.2.2.2.1 HA.out.ks
  have hf1 := (hk1'.block _ (lt_of_block HI.out.f) (ne_true HA.out.n1.2.2)).trans HI.out.f
  have hb1 := (hk1'.block _ (lt_of_block HI.out.b) (ne_true HA.out.n2.2.2)).trans HI.out.b
  have hww := within1_walk B Np Nm M s.1 s.2 (nm v) 1 w1 hm1 HL.out.2.2.2 HL.out.1 HL.out.2.1 HL.out.2.2.1
  have HWW := Lib.hid hww; have HT1 := Lib.hid hT1; have HR1 := Lib.hid hR1; have HK1 := Lib.hid hk1'; have HF1 := Lib.hid hf1; have HB1 := Lib.hid hb1
  have HS1 := Lib.hid (show ∀ b, (b = N1 ∨ b = N2) → w1.heap[b]? = W.heap[b]? from fun b hb => by
    rcases hb with rfl | rfl
    · exact hf1.trans HI.out.f.symm
    · exact hb1.trans HI.out.b.symm)
  clear hk1 hk1' hm1 hf1 hb1 hww hT1 hR1 HNW
  refine HK2.out _ _ HS1.out (fun hHeld => ?_)
  clear HK2
  try simp only [Act.put, List.getElem_toArray, List.getElem_cons_succ, List.getElem_cons_zero, List.setIfInBounds_toArray, List.set_cons_zero, List.set_cons_succ]
  clear K
  refine wpAnyH_ready (rs := [4]) (by kernel_rfl) (by simp) ?_
  refine AllReadyH.cons rfl (fun K hK => ?_) AllReadyH.nil
  have HK2 := Lib.hid hK
  clear hK
  try rw [if_pos (by rfl)]
  go_simp
  refine HWW.out.mono ?_
  rintro en w2 ⟨rfl, hm2, hk2, hkr2⟩
  have hq : ∀ b, b < w1.heap.size → b < B → b ≠ Nm → b ≠ M → w2.heap[b]? = w1.heap[b]? := fun b h1 h2 h3 h4 => hk2.block b h1 (decide_eq_true ⟨h2, h3, h4⟩)
  have hf2 := (hq N1 (lt_of_block HF1.out) HA.out.lt.1 HA.out.n1.1 HA.out.n1.2.1).trans HF1.out
  have hb2 := (hq N2 (lt_of_block HB1.out) HA.out.lt.2.1 HA.out.n2.1 HA.out.n2.2.1).trans HB1.out
  have hT2 := HT1.out.kept hk2 (fun b hb => decide_eq_true (HA.out.P b hb)) ⟨decide_eq_true ⟨HA.out.lt.2.2.1, HA.out.kb.1, HA.out.kb.2.1⟩, decide_eq_true ⟨HA.out.lt.2.2.2.1, HA.out.ks.2.1, HA.out.ks.2.2⟩, decide_eq_true ⟨HA.out.lt.2.2.2.2, HA.out.kb.2.2.1, HA.out.kb.2.2.2⟩⟩ (fun x hx => ⟨decide_eq_true ⟨(HA.out.up x hx).1, (HA.out.up x hx).2.2.1, (HA.out.up x hx).2.2.2.1⟩, decide_eq_true ⟨(HA.out.up x hx).2.1, (HA.out.up x hx).2.2.2.2.1, (HA.out.up x hx).2.2.2.2.2⟩⟩)
  have HFIN := Lib.hid (show W2V P k u n g nm st B Np Nm M N1 N2 (meetS nm 1 s v) w2 ∧ Kp (fun b => decide (b < B ∧ b ≠ Nm ∧ b ≠ M ∧ b ≠ k.s)) W w2 ∧ Kr Nm (Q4 M k.s) W w2 from
    ⟨⟨hm2, hf2, hb2, ⟨e1, hT2, HR1.out⟩⟩, (HK1.out.mono fun b hb => decide_eq_true (of_decide_eq_true hb).2.2.2).trans (hk2.mono fun b hb => decide_eq_true ⟨(of_decide_eq_true hb).1, (of_decide_eq_true hb).2.1, (of_decide_eq_true hb).2.2.1⟩), (Kr.off HK1.out (decide_eq_false fun h => h.2 rfl) (fun e => HA.out.ks.2.1 e.symm) (by have := HI.out.meet.ap; omega)).trans (hkr2.mono fun b hb => decide_eq_true (of_decide_eq_true hb).1)⟩)
  have HS2 := Lib.hid (show ∀ b, (b = N1 ∨ b = N2) → w2.heap[b]? = W.heap[b]? from fun b hb => by
    rcases hb with rfl | rfl
    · exact hf2.trans HI.out.f.symm
    · exact hb2.trans HI.out.b.symm)
  clear hm2 hk2 hkr2 hq hf2 hb2 hT2
  refine HK2.out _ _ HS2.out (fun hHeld => ?_)
  clear HK2
  try simp only [Act.put, List.getElem_toArray, List.getElem_cons_succ, List.getElem_cons_zero, List.setIfInBounds_toArray, List.set_cons_zero, List.set_cons_succ]
  clear K
  refine wpAnyH_done (by kernel_rfl) ?_ _
  clear hHeld
  go_wp2_with (fail)
  exact bodyPost_end (results_none rfl _ _ _) rfl ⟨rfl, HFIN.out⟩
end Types
end Go.Proofs.YtjchplgapaeagaaDoor
