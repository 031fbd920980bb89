/-How many nodes are left. A region that draws its order, within a round of a loop over a function: it goes as outside. -/
import Derived.Test.YtjchplgapaeagaaDoorGV12
import Derived.Test.YtjchplgapaeagaaDoorGV06
import Derived.Deep.RegionHeld
import Derived.CallsIn
import Derived.TacticsIn
import Derived.RangeFuncCalls
namespace Go.Proofs.YtjchplgapaeagaaDoor
open Go.RowKit
set_option linter.unusedVariables false
set_option linter.unusedSimpArgs false
namespace Types

theorem eok_left {n : Nat} {nm : Nat → Nat} {sz : Nat → Int} {F : Nat → Option Value} : ∀ (l : List Nat) (a : Int), (∀ v ∈ l, v < n ∧ HasZ F sz (nm v)) →
    EOk (leftS nm sz) (fun _ v => ∃ x : Nat, v = (x : Int) ∧ x < n ∧ HasZ F sz (nm x)) a (l.map fun v => ((v : Nat) : Int))
  | [], a, h => trivial
  | v :: l, a, h => ⟨⟨v, rfl, h v (by simp)⟩, eok_left l _ fun x hx => h x (by simp [hx])⟩
set_option maxRecDepth 100000 in
set_option maxHeartbeats 6400000 in
theorem left_walk (P : Nat → Bool) (k : Bk) (u : Up) (n : Nat) (e : Nat → Option Ty) (g : Nat → Bool) (nm : Nat → Nat) (st : Nat → Option Ty) (h : Hd) (p : Option Addr) (l c : Nat) (t : Ty) (most : Int) (M : Nat) (F : Nat → Option Value) (sz : Nat → Int) (w : World) (hT : TBk P w k u n e g) (hR : Rep (cmb u e) nm st)
    (hY : TyIs (veil P w) h p l c t) (hm : evT t = (varsT t).map fun v => ((v : Nat) : Int)) (hwt : wt t ≤ 1000000) (hM : MapAt w M F) (hF : ∀ v ∈ varsT t, v < n ∧ HasZ F sz (nm v)) (hMs : M ≠ k.s) (hmost : 0 ≤ most ∧ most ≤ 9223372036854775807) :
    Calls Tryd.prog 64 #[.pointer (some ⟨k.b, 0, none⟩), .agg #[.int .u8 h.k, .int .i64 h.v, .slice p l c], .int .i64 most, .map (some M)] w fun en w' => en = .returned (.int .i64 (((varsT t).map fun v => ((v : Nat) : Int)).foldl (leftS nm sz) (most - (wt t : Nat)))) ∧ ∃ e', TBk P w' k u n e' g ∧ Rep (cmb u e') nm st ∧ Kp (fun b => decide (b ≠ k.s)) w w' := by
  obtain ⟨K, V⟩ := h
  have hb3 : Below w.heap.size w (((w.alloc (.cells #[.pointer (some ⟨k.b, 0, none⟩)] 28)).alloc (.cells #[.int .u8 K, .int .i64 V, .slice p l c] 25)).alloc (.cells #[.map (some M)] 90)) := ((al_new _).alloc (by simp) _).alloc (by simp; omega) _
  have hkd0 : Kids ((((w.alloc (.cells #[.pointer (some ⟨k.b, 0, none⟩)] 28)).alloc (.cells #[.int .u8 K, .int .i64 V, .slice p l c] 25)).alloc (.cells #[.map (some M)] 90)).alloc (.cells #[.int .u8 K, .int .i64 V, .slice p l c] 25)) (some ⟨w.heap.size + 1 + 1 + 1, 0, none⟩) [t] :=
    kids_one ((hY.reads' (fun a v hv => (veil_seen hv).2 : Reads (veil P w) w)).below hb3) 25 (w.heap.size + 1 + 1 + 1) (by simp)
  have hsz := size_walk [t] (some ⟨w.heap.size + 1 + 1 + 1, 0, none⟩) 1 1 _ rfl (by unfold maxLen; omega) hkd0 (by rw [wts_cons, wts_nil]; omega)
  have HSZ := Lib.hid hsz; have HB3 := Lib.hid hb3; have HT := Lib.hid hT; have HR := Lib.hid hR; have HY := Lib.hid hY; have HM := Lib.hid hM; have HF := Lib.hid hF; have HMO := Lib.hid hmost; have HMAY := Lib.hid hm; have HWT := Lib.hid hwt; have HMS := Lib.hid hMs
  clear hsz hb3 hT hR hY hM hF hmost hm hkd0 hwt hMs
  go_enter Tryd.func64, Tryd.ntmps64
  go_wp2_with (fail)
  refine HSZ.out.mono ?_
  rintro en w4 ⟨rfl, hb4⟩
  have hz4 : w.heap.size + 4 ≤ w4.heap.size := by have := hb4.size; simpa using this
  have hbw : Below w.heap.size w w4 := (HB3.out.alloc (by simp; omega) _).trans (hb4.mono (by simp; omega))
  have z3 : (((w.alloc (.cells #[.pointer (some ⟨k.b, 0, none⟩)] 28)).alloc (.cells #[.int .u8 K, .int .i64 V, .slice p l c] 25)).alloc (.cells #[.map (some M)] 90)).heap.size = w.heap.size + 3 := by simp
  have x4 : w4.heap[w.heap.size]? = some (.cells #[.pointer (some ⟨k.b, 0, none⟩)] 28 (0, 0)) := by
    rw [hb4.block _ (by simp <;> omega), Below.heap_alloc _ _ _ (by simp <;> omega), Below.heap_alloc _ _ _ (by simp <;> omega), Below.heap_alloc _ _ _ (by simp <;> omega)]; exact heap_alloc_new w _
  have x5 : w4.heap[w.heap.size + 1]? = some (.cells #[.int .u8 K, .int .i64 V, .slice p l c] 25 (0, 0)) := by
    rw [hb4.block _ (by simp <;> omega), Below.heap_alloc _ _ _ (by simp <;> omega), Below.heap_alloc _ _ _ (by simp <;> omega)]
    have := heap_alloc_new (w.alloc (.cells #[.pointer (some ⟨k.b, 0, none⟩)] 28)) (.cells #[.int .u8 K, .int .i64 V, .slice p l c] 25)
    simpa using this
  have x7 : w4.heap[w.heap.size + 1 + 1]? = some (.cells #[.map (some M)] 90 (0, 0)) := by
    rw [hb4.block _ (by simp <;> omega), Below.heap_alloc _ _ _ (by simp <;> omega)]
    have := heap_alloc_new ((w.alloc (.cells #[.pointer (some ⟨k.b, 0, none⟩)] 28)).alloc (.cells #[.int .u8 K, .int .i64 V, .slice p l c] 25)) (.cells #[.map (some M)] 90)
    simpa using this
  have hsum : wts [t] = wt t := by rw [wts_cons, wts_nil]; omega
  rw [hsum]
  obtain ⟨m0, hm0⟩ : ∃ m0 : Int, m0 = most - (wt t : Nat) := ⟨_, rfl⟩
  have hwr : IntKind.i64.wrap (most - (wt t : Nat)) = m0 := by rw [hm0]; exact IntWalk.i64_in _ (by have := HMO.out; have := HWT.out; omega)
  have HX4 := Lib.hid x4; have HX5 := Lib.hid x5; have HX7 := Lib.hid x7; have HBW := Lib.hid hbw; have HZ4 := Lib.hid hz4; have HM0 := Lib.hid hm0
  obtain ⟨⟨g0, g1, g2⟩, -, gl⟩ := c3 x5
  clear hb4 hz4 hbw z3 x4 x5 x7 hsum hm0 HSZ HB3
  go_wp2_with (fail)
  clear g0 g1 g2 gl hwr
  have hlow := HT.out.all_low
  have hww : w.heap.size ≤ w4.heap.size := HBW.out.size
  have b5 := al_new (W := w4) (.cells #[.int .i64 m0] 3)
  have b6 := al_new (W := w4.alloc (.cells #[.int .i64 m0] 3)) (.cells #[.int .u8 K, .int .i64 V, .slice p l c] 25)
  have z5 : (w4.alloc (.cells #[.int .i64 m0] 3)).heap.size = w4.heap.size + 1 := by simp
  have hQY : Reads (veil P w) (veil (fun b => decide (b ≠ k.s ∧ b ≠ w4.heap.size)) (w4.alloc (.cells #[.int .i64 m0] 3))) := veil_to fun b hb hp => ⟨decide_eq_true ⟨fun e => (by subst e; rw [HT.out.me.ps] at hp; cases hp), by omega⟩, (b5.block b (by omega)).trans (HBW.out.block b hb)⟩
  have hkd := kids_one_veil (HY.out.reads' hQY) 25 (w4.heap.size + 1) z5.symm (decide_eq_true ⟨by omega, by omega⟩)
  have hI : LfV (less P w4.heap.size) k u n g nm st w4.heap.size (w.heap.size + 1 + 1) w.heap.size M F m0 (w4.alloc (.cells #[.int .i64 m0] 3)) :=
    ⟨heap_alloc_new w4 _, (b5.block _ (by have := HZ4.out; omega)).trans HX7.out, (b5.block _ (by have := HZ4.out; omega)).trans HX4.out, (HM.out.of_block (HBW.out.block _ HM.out.lt)).of_block (b5.block _ (by have := HM.out.lt; omega)), ⟨e, ((HT.out.below HBW.out).less (Nat.le_refl _)).below b5, HR.out⟩, by have := HM0.out; have := HMO.out; have := HWT.out; omega⟩
  have hev : evK [t] = (varsT t).map fun v => ((v : Nat) : Int) := by rw [evK_cons, evK_nil, List.append_nil, HMAY.out]
  have hML := HM.out.lt
  have he := eachL (fun b => decide (b ≠ k.s ∧ b ≠ w4.heap.size)) (w4.alloc (.cells #[.int .i64 m0] 3)) (.pointer (some ⟨w4.heap.size, 0, none⟩)) (.pointer (some ⟨w.heap.size + 1 + 1, 0, none⟩)) (.pointer (some ⟨w.heap.size, 0, none⟩))
    (LfV (less P w4.heap.size) k u n g nm st w4.heap.size (w.heap.size + 1 + 1) w.heap.size M F) (leftS nm sz) (fun _ v => ∃ x : Nat, v = (x : Int) ∧ x < n ∧ HasZ F sz (nm x))
    (fun a v W hI hok => by
      obtain ⟨x, rfl, hx, hf⟩ := hok
      exact left1_walk (less P w4.heap.size) k u n g nm st w4.heap.size (w.heap.size + 1 + 1) w.heap.size M F sz a x W hI hx (fun _ => hf) (by have := HZ4.out; omega) ⟨by omega, by omega, HMS.out⟩ (less_at _ _) fun y hy => by have := hlow.2 y hy; omega)
    (fun a W O h => h.alloc O) (fun b hb => decide_eq_true (by rw [z5] at hb; omega)) (wts [t]) [t] (some ⟨w4.heap.size + 1, 0, none⟩) 1 1 m0 _ (Nat.le_refl _) rfl (by unfold maxLen; omega) hkd (by simp) (hI.alloc _) (by rw [hev]; exact eok_left _ _ HF.out)
  rw [hev] at he
  have HE := Lib.hid he; have HLOW := Lib.hid hlow; have HB6 := Lib.hid (show ∀ b, b < w.heap.size → ((w4.alloc (.cells #[.int .i64 m0] 3)).alloc (.cells #[.int .u8 K, .int .i64 V, .slice p l c] 25)).heap[b]? = w.heap[b]? from fun b hb => (b6.block b (by omega)).trans ((b5.block b (by omega)).trans (HBW.out.block b hb)))
  clear he hlow b5 b6 z5 hQY hkd hI hev hML
  refine HE.out.mono ?_
  rintro en w6 ⟨rfl, hi6, hk6⟩
  obtain ⟨x0, -, xl⟩ := c1 hi6.x1
  have HI6 := Lib.hid hi6; have HK6 := Lib.hid hk6
  clear hi6 hk6 HE
  go_wp2_with (fail)
  go_ret
  obtain ⟨e6, h1, h2⟩ := HI6.out.book
  have hk6 := HK6.out
  exact ⟨by rw [← HM0.out]; rfl, e6, h1.reP (less_back w6) HT.out.me.pb HT.out.me.ps HT.out.me.pi HT.out.upP, h2, ⟨hk6.os.trans HBW.out.os, hk6.tape.trans HBW.out.tape, hk6.output.trans HBW.out.output, by have := hk6.size; simp at this; omega, fun b hb hp => (hk6.block b (by simp; omega) (decide_eq_true ⟨of_decide_eq_true hp, by omega⟩)).trans (HB6.out b hb)⟩⟩
end Types
end Go.Proofs.YtjchplgapaeagaaDoor
namespace Go.Proofs.YtjchplgapaeagaaDoor
set_option linter.unusedVariables false
namespace Types

/-- It ends as it should, or not at all. -/
def onlyN (Q : Exit → Act → World → Prop) (e : Exit) (a : Act) (w : World) : Prop := e = .normal ∧ Q e a w
theorem onlyN_out (Q : Exit → Act → World → Prop) : ¬ LetsOut (onlyN Q) := fun h => by
  obtain ⟨a, w, h, _⟩ := h
  cases h
theorem wpOps_wide {P : Program} {ops : Array Oper} {Q : Exit → Act → World → Prop} {l n : Nat} (hd : ∀ (i : Nat) (o : Oper), ops[i]? = some o → ∀ c, o.op ≠ .defer c) (hq : ¬ LetsOut Q) :
    ∀ (ls : List Nat) (a : Act) (w : World), wpOps P ops Q ls a w → wpOpsIn (Fence.wide.inRound l) n P ops Q ls a w
  | [], a, w, h => h
  | i :: rest, a, w, h => by
    have ih := wpOps_wide (P := P) (l := l) (n := n) hd hq rest
    unfold wpOps at h
    unfold wpOpsIn
    cases ho : ops[i]? with
    | none =>
      rw [ho] at h
      exact ih a w h
    | some o =>
      rw [ho] at h
      simp only at h ⊢
      split
      · rename_i hw
        rw [if_pos hw] at h
        rcases h with h | ⟨_, h⟩
        · refine ⟨fun f _ => trivial, ?_⟩
          rw [show (Fence.wide.inRound l).round = some l from rfl, Oper.semAt_some l _ o (hd i o ho)]
          unfold Oper.wp at h
          generalize (execOp a.eval o).run P w = r at *
          cases r with
          | ok x w' =>
            cases x with
            | value v => exact ih _ _ h
            | skip => exact ih _ _ h
            | defer d => exact ih _ _ h
            | enter f args =>
              refine ⟨fun e => (by cases e), (callsIn_wide (n := n - 1)).2 (Calls.mono h fun e w'' he => ?_)⟩
              cases e with
              | returned v => exact ih _ _ he
              | panicked c => exact he
              | outgrown => exact he
            | row row args =>
              refine ⟨fun e => (by cases e), fun c cs _ => ?_⟩
              obtain ⟨v, w'', h1, h2⟩ := h c cs
              exact ⟨v, w'', ih _ _ h1, stepsIn_wide.2 h2⟩
            | _ => exact h.elim
          | halt x w' =>
            cases x with
            | panic v => exact h
            | _ => exact h.elim
        · exact absurd h hq
      · rename_i hw
        rw [if_neg hw] at h
        exact ⟨fun f _ => trivial, ih _ _ h⟩
/-- None of them defers. -/
def noDefer (ops : Array Oper) : Bool := ops.all fun o => match o.op with
  | .defer _ => false
  | _ => true
theorem noDefer_spec {ops : Array Oper} (h : noDefer ops = true) (i : Nat) (o : Oper) (ho : ops[i]? = some o) (c : Call) : o.op ≠ .defer c := fun e => by
  unfold noDefer at h
  rw [Array.all_eq_true'] at h
  have := h o (Array.mem_of_getElem? ho)
  rw [e] at this
  cases this
theorem region_round {P : Program} {id : Nat} {ops : Array Oper} {Q : Exit → Act → World → Prop} {a : Act} {w : World} {l n : Nat} {S : World → Prop} (hd : ∀ (i : Nat) (o : Oper), ops[i]? = some o → ∀ c, o.op ≠ .defer c) (hm : P.follows .mixedOrders = true) (hS : S w.drew)
    (h : S w.drew → wpAnyH P .any ops (onlyN Q) S ops.size (Array.replicate ops.size false) a w.drew) : (Code.region id ops true).wpIn (Fence.wide.inRound l) n P Q a w := by
  refine Code.wpIn_mono (Q := onlyN Q) (fun e a w h => h.2) (wpIn_region_draw fun t => wpOps_wide hd (onlyN_out Q) _ _ _ ?_)
  simp only [Region.schedule, hm, Bool.true_or, if_true]
  exact wpAny_sound ops.size t _ a _ (wpAny_of_held _ _ _ _ (h hS))
end Types
end Go.Proofs.YtjchplgapaeagaaDoor
