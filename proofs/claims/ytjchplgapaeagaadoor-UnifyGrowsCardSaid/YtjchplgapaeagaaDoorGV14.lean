/-A name that stands at no other place any more comes into the order. A type's variables are handed on, each in its order, to what the function (*enclave/unify.Book).fits$1 does. (Written by wip/tools/uneach.py.) A type's variables, as a row. Unification: what holds of a trial from round to round of 'same'. Rows of one's own that grow beside a book. -/
import Derived.Test.YtjchplgapaeagaaDoorGV13
import Derived.Test.YtjchplgapaeagaaDoorGV11
import Derived.LoopTactic
import Derived.Test.YtjchplgapaeagaaDoorGV10
import Derived.Maps.AppendAt
import Derived.Deep.LoopGhost
import Derived.Deep.CutRange
namespace Go.Proofs.YtjchplgapaeagaaDoor
open Go.RowKit
set_option linter.unusedVariables false
set_option linter.unusedSimpArgs false
namespace Types

/-- A row's block lies apart. -/
def Ap4 (P : Nat → Bool) (k : Bk) (u : Up) (Np Nm M N2 g : Nat) : Prop := g ≠ Np ∧ g ≠ Nm ∧ g ≠ M ∧ g ≠ N2 ∧ g ≠ k.b ∧ g ≠ k.s ∧ g ≠ k.i ∧ P g = false ∧ ∀ x, u = some x → g ≠ x.1.b ∧ g ≠ x.1.s
/-- What within$4 relies on. -/
structure W4V (P : Nat → Bool) (k : Bk) (u : Up) (n : Nat) (g : Nat → Bool) (nm : Nat → Nat) (st : Nat → Option Ty) (Np Nm M N2 : Nat) (s : List Nat × (Nat → Option Int)) (W : World) : Prop where
  xp : W.heap[Np]? = some (.cells #[.map (some M)] 90 (0, 0))
  xm : ∃ a c, W.heap[Nm]? = some (.cells #[.slice a s.1.length c] 31 (0, 0)) ∧ W.ownsRow 0 3 1 (.slice a s.1.length c) s.1.length (ints (s.1.map fun v => ((v : Nat) : Int))) ∧ ∀ g', (Value.slice a s.1.length c).ownBlock = some g' → Ap4 P k u Np Nm M N2 g'
  map : MapAt W M (fun i => (s.2 i).map (Value.int .i64))
  b : W.heap[N2]? = some (.cells #[.pointer (some ⟨k.b, 0, none⟩)] 28 (0, 0))
  book : ∃ e, TBk P W k u n e g ∧ Rep (cmb u e) nm st
theorem W4V.alloc {P : Nat → Bool} {k : Bk} {u : Up} {n : Nat} {g : Nat → Bool} {nm : Nat → Nat} {st : Nat → Option Ty} {Np Nm M N2 : Nat} {s : List Nat × (Nat → Option Int)} {W : World} (h : W4V P k u n g nm st Np Nm M N2 s W) (O : Obj) : W4V P k u n g nm st Np Nm M N2 s (W.alloc O) := by
  obtain ⟨e, h2, h3⟩ := h.book
  obtain ⟨a, c, q1, q2, q3⟩ := h.xm
  have b1 := al_new (W := W) O
  exact ⟨(b1.block _ (lt_of_block h.xp)).trans h.xp, ⟨a, c, (b1.block _ (lt_of_block q1)).trans q1, own_all q2 b1, q3⟩, h.map.of_block (b1.block _ h.map.lt), (b1.block _ (lt_of_block h.b)).trans h.b, ⟨e, h2.below b1, h3⟩⟩
/-- What lies apart. -/
structure W4A (P : Nat → Bool) (k : Bk) (u : Up) (Z Np Nm M N2 : Nat) : Prop where
  ap : Np ≠ Nm ∧ Np ≠ M ∧ Nm ≠ M
  n2 : N2 ≠ Nm ∧ N2 ≠ M ∧ N2 ≠ k.s
  ks : k.s ≠ Np ∧ k.s ≠ Nm ∧ k.s ≠ M
  kb : k.b ≠ Nm ∧ k.b ≠ M ∧ k.i ≠ Nm ∧ k.i ≠ M
  up : ∀ x, u = some x → x.1.b ≠ Nm ∧ x.1.b ≠ M ∧ x.1.s ≠ Nm ∧ x.1.s ≠ M
  new : ∀ b, Z ≤ b → P b = false
  P : ∀ b, P b = true → b ≠ Nm ∧ b ≠ M
theorem own_off {W W' : World} {t : TypeId} {s m x : Nat} {v : Value} {xs : List Value} {B : Nat} (h : W.ownsRow B t s v m xs) (hk : Kp (fun b => decide (b ≠ x)) W W') (hx : v.ownBlock ≠ some x) : W'.ownsRow B t s v m xs :=
  ⟨h.1, h.2.elim .inl fun ⟨b, cap, cur, h1, h2, h3, h4⟩ => .inr ⟨b, cap, cur, h1, h2, (hk.block b (lt_of_block h3) (decide_eq_true fun e => hx (by rw [h1, ← e]; rfl))).trans h3, h4⟩⟩
set_option maxRecDepth 100000 in
set_option maxHeartbeats 6400000 in
theorem within4_walk (P : Nat → Bool) (k : Bk) (u : Up) (n : Nat) (g : Nat → Bool) (nm : Nat → Nat) (st : Nat → Option Ty) (Z Np Nm M N2 : Nat) (l : List Nat) (F : Nat → Option Int) (v : Nat) (pl : Int) (W : World) (hI : W4V P k u n g nm st Np Nm M N2 (l, F) W) (hA : W4A P k u Z Np Nm M N2) (hZ : Z ≤ W.heap.size) (hv : v < n)
    (hl : l.length < 1000000000) (hF : ∀ i, F i ≠ none → i < 1000000000) (hpl : F (nm v) = some pl) (hr : -4611686018427387904 ≤ pl - 1 ∧ pl - 1 ≤ 4611686018427387904) :
    Calls Tryd.prog 75 #[.int .i64 (v : Int), .pointer (some ⟨N2, 0, none⟩), .pointer (some ⟨Np, 0, none⟩), .pointer (some ⟨Nm, 0, none⟩)] W fun en W' => en = .returned (.tuple #[]) ∧ W4V P k u n g nm st Np Nm M N2 (lessS nm (l, F) v) W' ∧ Kr Nm (Q4 M k.s) W W' := by
  obtain ⟨i0, hi, hz0, hz1, hz2⟩ := info_parts infoInt
  obtain ⟨e, hT, hR⟩ := hI.book
  have hnw := name_walk P k u n e g nm st v W hT hR hv
  have hvn : nm v < 1000000000 := by have := hR.le v; have := hT.me.few; omega
  have hkv : KeyOk (nm v) := keyOk_of (by omega)
  have hwr : IntKind.i64.wrap (pl - 1) = pl - 1 := IntWalk.i64_in _ (by omega)
  have hFn : ∀ i, KeyOk i → ((F i).map (Value.int .i64)) ≠ none → i < 1000000000 := fun i _ hi => hF i fun e => hi (by rw [e]; rfl)
  obtain ⟨x0, xf, xl⟩ := c1 hI.b
  have HI := Lib.hid hI; have HA := Lib.hid hA; have HNW := Lib.hid hnw; have HFN := Lib.hid hFn; have HKV := Lib.hid hkv; have HPL := Lib.hid hpl; have HINF := Lib.hid hi; have HZ0 := Lib.hid hz0; have HZ1 := Lib.hid hz1; have HZ2 := Lib.hid hz2; have HWR := Lib.hid hwr; have HVN := Lib.hid hvn
  have HZW := Lib.hid hZ
  clear hI hA hnw hF hr hT hR hvn hkv hpl hFn hi hz0 hz1 hz2 hwr hv hZ
  go_enter Tryd.func75, Tryd.ntmps75
  go_wp2_with (fail)
  refine HNW.out.mono ?_
  rintro en w1 ⟨rfl, e1, hT1, hR1, hk1⟩
  obtain ⟨a, c, hxm, hown, hap⟩ := HI.out.xm
  have hm1 : W4V P k u n g nm st Np Nm M N2 (l, F) w1 := ⟨(hk1.block _ (lt_of_block HI.out.xp) (ne_true (fun e => HA.out.ks.1 e.symm))).trans HI.out.xp, ⟨a, c, (hk1.block _ (lt_of_block hxm) (ne_true (fun e => HA.out.ks.2.1 e.symm))).trans hxm, own_off hown hk1 (fun e => (hap _ e).2.2.2.2.2.1 rfl), hap⟩, HI.out.map.of_block (hk1.block _ HI.out.map.lt (ne_true (fun e => HA.out.ks.2.2 e.symm))), (hk1.block _ (lt_of_block HI.out.b) (ne_true HA.out.n2.2.2)).trans HI.out.b, ⟨e1, hT1, hR1⟩⟩
  have HNL := Lib.hid (lt_of_block hxm)
  clear hxm hown hap
  have hb1 := (hk1.block _ (lt_of_block HI.out.b) (ne_true HA.out.n2.2.2)).trans HI.out.b
  have HM1 := Lib.hid hm1; have HT1 := Lib.hid hT1; have HR1 := Lib.hid hR1; have HK1 := Lib.hid hk1; have HB1 := Lib.hid hb1
  clear hm1 hT1 hR1 hk1 hb1 HNW x0 xf xl
  obtain ⟨x0, xf, xl⟩ := c1 HM1.out.xp
  have hlk1 := HM1.out.map.look Tryd.underlying90 (zeroInt _) HKV.out
  simp only [show F (nm v) = some pl from HPL.out] at hlk1
  have hlk2 : (Instr.lookup 90 (.map (some M)) (.int .i64 ((nm v : Nat) : Int)) false).run Tryd.prog w1 = .ok (.int .i64 pl) w1 := hlk1
  have hwr := HWR.out
  clear hlk1
  go_upto_region 2 with (refine wpList_store 90 3 Tryd.underlying90 M 1000000000 (nm v) (fun i => (F i).map (Value.int .i64)) (.int .i64 (pl - 1)) rfl rfl rfl HM1.out.map HFN.out (by unfold maxLen; omega) HKV.out (fun w5 hm hg hs => ?_))
  have hoff : ∀ b, b ≠ M → w5.heap[b]? = w1.heap[b]? := fun b hb => store_off hg hs hb
  have hkp : Kp (fun b => decide (b ≠ M)) w1 w5 := ⟨hg.os, hg.tape, hg.output, Nat.le_of_eq hs.symm, fun b hb hp => hoff b (of_decide_eq_true hp)⟩
  obtain ⟨a, c, hxm, hown, hap⟩ := HM1.out.xm
  have hT5 := HT1.out.kept hkp (fun b hb => decide_eq_true (HA.out.P b hb).2) ⟨decide_eq_true HA.out.kb.2.1, decide_eq_true HA.out.ks.2.2, decide_eq_true HA.out.kb.2.2.2⟩ (fun x hx => ⟨decide_eq_true (HA.out.up x hx).2.1, decide_eq_true (HA.out.up x hx).2.2.2⟩)
  have hm5 : W4V P k u n g nm st Np Nm M N2 (l, upd F (nm v) (some (pl - 1))) w5 :=
    ⟨(hoff _ HA.out.ap.2.1).trans HM1.out.xp, ⟨a, c, (hoff _ HA.out.ap.2.2).trans hxm, own_off hown hkp (fun e => (hap _ e).2.2.1 rfl), hap⟩, by rw [map_upd]; exact hm, (hoff _ HA.out.n2.2.1).trans HM1.out.b, ⟨e1, hT5, HR1.out⟩⟩
  have HM5 := Lib.hid hm5; have HT5 := Lib.hid hT5
  have HKR5 := Lib.hid (show Kr Nm (Q4 M k.s) W w5 from (Kr.off HK1.out (decide_eq_false fun h => h.2 rfl) (fun e => HA.out.ks.2.1 e.symm) HNL.out).trans (Kr.off hkp (decide_eq_false fun h => h.1 rfl) HA.out.ap.2.2 (lt_of_block hxm)))
  clear hoff hkp hxm hown hap hm5 hm hg hs hlk2 x0 xf xl HM1 HT1 HB1 HK1 hwr hT5
  obtain ⟨x0, xf, xl⟩ := c1 HM5.out.xp
  have hlk1 := HM5.out.map.look Tryd.underlying90 (zeroInt _) HKV.out
  simp only [upd_same] at hlk1
  have hlk2 : (Instr.lookup 90 (.map (some M)) (.int .i64 ((nm v : Nat) : Int)) false).run Tryd.prog w5 = .ok (.int .i64 (pl - 1)) w5 := hlk1
  clear hlk1
  by_cases h0 : pl - 1 = 0
  · have hS : lessS nm (l, F) v = (l ++ [nm v], upd F (nm v) (some (pl - 1))) := by unfold lessS; simp only [show F (nm v) = some pl from HPL.out]; show (if pl - 1 = 0 then _ else _, _) = _; rw [if_pos h0]; rfl
    have HS := Lib.hid hS
    obtain ⟨m0, hm0⟩ : ∃ m0, m0 = pl - 1 := ⟨_, rfl⟩
    rw [← hm0] at hlk2 h0
    have HM0 := Lib.hid hm0
    subst h0
    clear hS hm0
    obtain ⟨a, c, hxm, hown, hap⟩ := HM5.out.xm
    obtain ⟨y0, yf, yl⟩ := c1 hxm
    have HXM := Lib.hid hxm; have HOWN := Lib.hid hown; have HAP := Lib.hid hap
    clear hxm hown hap
    go_wp2_with (at_builtin; refine wpList_append_own_at _ rfl (.tmp 16) (.tmp 18) 31 rfl 0 3 i0 _ 1 8 Tryd.underlying31 HINF.out HZ0.out HZ1.out HZ2.out rfl (by decide) (.slice a l.length c) l.length (ints (l.map fun v => ((v : Nat) : Int))) rfl (own_all HOWN.out (al_new _)) ⟨w5.heap.size, 0, none⟩ 1 1 [.int .i64 ((nm v : Nat) : Int)] rfl rfl (new_int rfl) (one_int _) (by unfold maxLen; omega) (by omega) (Nat.zero_le _) ?_; intro v' w3 hown3 hgrow3 _ hat3; obtain ⟨a3, c3, rfl, hc3, hn3⟩ := own_slice hown3; have HGR := Lib.hid hgrow3; have HAT := Lib.hid hat3; have HO3 := Lib.hid hown3; have HX3 := Lib.hid ((hgrow3.block Nm (by have := lt_of_block HXM.out; simp; omega) (fun e => (HAP.out _ e.symm).2.1 rfl)).trans (((al_new _).block _ (lt_of_block HXM.out)).trans HXM.out)); obtain ⟨q0, qf, ql⟩ := c1 HX3.out; clear hown3 hgrow3 hat3 hc3 hn3)
    have hset : (w3.setCell ⟨Nm, 0, none⟩ (.slice a3 (l.length + 1) c3)).heap[Nm]? = some (.cells #[.slice a3 (l.length + 1) c3] 31 (0, 0)) := by
      have := HX3.out
      simp [World.setCell, Array.getElem?_modify, this]
    have hkp : Kp (fun b => decide (b ≠ Nm)) w3 (w3.setCell ⟨Nm, 0, none⟩ (.slice a3 (l.length + 1) c3)) := (Kp.refl _ _).set (by simp) 0 _
    have hkr : Kr Nm (Q4 M k.s) W (w3.setCell ⟨Nm, 0, none⟩ (.slice a3 (l.length + 1) c3)) := (HKR5.out.trans (Kr.alloc (.cells #[.int .i64 ((nm v : Nat) : Int)] 3) (lt_of_block HXM.out))).trans (Kr.push (((al_new _).block _ (lt_of_block HXM.out)).trans HXM.out) (fun e => (HAP.out _ e).2.1 rfl) HGR.out HAT.out)
    have hk9 : Kr Nm (fun _ => true) w5 (w3.setCell ⟨Nm, 0, none⟩ (.slice a3 (l.length + 1) c3)) := (Kr.alloc (.cells #[.int .i64 ((nm v : Nat) : Int)] 3) (lt_of_block HXM.out)).trans (Kr.push (((al_new _).block _ (lt_of_block HXM.out)).trans HXM.out) (fun e => (HAP.out _ e).2.1 rfl) HGR.out HAT.out)
    have hz3 : w5.heap.size + 1 ≤ w3.heap.size := by have := HGR.out.size; simpa using this
    have hnew : ∀ g', (Value.slice a3 (l.length + 1) c3).ownBlock = some g' → Ap4 P k u Np Nm M N2 g' ∨ w5.heap.size ≤ g' := fun g' e => by
      rcases HAT.out with q | q
      · rw [q] at e; exact .inl (HAP.out g' e)
      · rw [q] at e; injection e with e; exact .inr (by rw [← e]; simp)
    generalize w3.setCell ⟨Nm, 0, none⟩ (.slice a3 (l.length + 1) c3) = w9 at *
    have hne : (Value.slice a3 (l.length + 1) c3).ownBlock ≠ some Nm := fun e => by
      rcases hnew _ e with q | q
      · exact q.2.1 rfl
      · have := lt_of_block HXM.out; omega
    have hO9 := own_off HO3.out hkp hne
    have hin : ints (l.map fun v => ((v : Nat) : Int)) ++ [.int .i64 ((nm v : Nat) : Int)] = ints ((l ++ [nm v]).map fun v => ((v : Nat) : Int)) := by unfold ints; simp
    rw [hin] at hO9
    have hro : rowOf w5 Nm = (Value.slice a l.length c).ownBlock := rowOf_eq HXM.out
    have hq : ∀ b, b ≠ Nm → (∀ g', (Value.slice a l.length c).ownBlock = some g' → g' ≠ b) → ((fun b => true && decide (b ≠ Nm ∧ rowOf w5 Nm ≠ some b)) b) = true := fun b h1 h2 => by
      show (true && decide _) = true
      rw [Bool.true_and]
      exact decide_eq_true ⟨h1, by rw [hro]; exact fun e => h2 b e rfl⟩
    have q9 : ∀ b, b < w5.heap.size → b ≠ Nm → (∀ g', (Value.slice a l.length c).ownBlock = some g' → g' ≠ b) → w9.heap[b]? = w5.heap[b]? := fun b h1 h2 h3 => hk9.kp.block b h1 (hq b h2 h3)
    have hT9 := HT5.out.kept hk9.kp (fun b hb => hq b (HA.out.P b hb).1 fun g' e q => by subst q; have := (HAP.out _ e).2.2.2.2.2.2.2.1; rw [this] at hb; cases hb) ⟨hq _ HA.out.kb.1 fun g' e => (HAP.out _ e).2.2.2.2.1, hq _ HA.out.ks.2.1 fun g' e => (HAP.out _ e).2.2.2.2.2.1, hq _ HA.out.kb.2.2.1 fun g' e => (HAP.out _ e).2.2.2.2.2.2.1⟩ (fun x hx => ⟨hq _ (HA.out.up x hx).1 fun g' e => ((HAP.out _ e).2.2.2.2.2.2.2.2 x hx).1, hq _ (HA.out.up x hx).2.2.1 fun g' e => ((HAP.out _ e).2.2.2.2.2.2.2.2 x hx).2⟩)
    have hlow := HT5.out.all_low
    refine bodyPost_end (results_none rfl _ _ _) rfl ⟨rfl, ?_, hkr⟩
    rw [HS.out]
    refine ⟨(q9 Np (lt_of_block HM5.out.xp) HA.out.ap.1 fun g' e => (HAP.out _ e).1).trans HM5.out.xp, ⟨a3, c3, ?_, ?_, fun g' e => ?_⟩, HM5.out.map.of_block (q9 M HM5.out.map.lt (fun e => HA.out.ap.2.2 e.symm) fun g' e => (HAP.out _ e).2.2.1), (q9 N2 (lt_of_block HM5.out.b) HA.out.n2.1 fun g' e => (HAP.out _ e).2.2.2.1).trans HM5.out.b, ⟨e1, hT9, HR1.out⟩⟩
    · show w9.heap[Nm]? = some (.cells #[.slice a3 (l ++ [nm v]).length c3] 31 (0, 0))
      rw [List.length_append]; exact hset
    · show w9.ownsRow 0 3 1 (.slice a3 (l ++ [nm v]).length c3) (l ++ [nm v]).length _
      rw [List.length_append]; exact hO9
    · have e' : (Value.slice a3 (l.length + 1) c3).ownBlock = some g' := by
        have e : (Value.slice a3 (l ++ [nm v]).length c3).ownBlock = some g' := e
        rw [List.length_append] at e; exact e
      rcases hnew g' e' with q | q
      · exact q
      · have z1 := lt_of_block HM5.out.xp; have z2 := lt_of_block HXM.out; have z3 := HM5.out.map.lt; have z4 := lt_of_block HM5.out.b
        have z5 := HKR5.out.kp.size; have z6 := HZW.out
        exact ⟨by omega, by omega, by omega, by omega, by omega, by omega, by omega, HA.out.new _ (by omega), fun x hx => by have := hlow.2 x hx; omega⟩
  · have hS : lessS nm (l, F) v = (l, upd F (nm v) (some (pl - 1))) := by unfold lessS; simp only [show F (nm v) = some pl from HPL.out]; show (if pl - 1 = 0 then _ else _, _) = _; rw [if_neg h0]; rfl
    have HS := Lib.hid hS
    have hq : (pl - 1 == 0) = false := beq_eq_false_iff_ne.2 h0
    clear hS h0
    go_wp2_with (fail)
    refine bodyPost_end (results_none rfl _ _ _) rfl ⟨rfl, ?_, HKR5.out⟩
    rw [HS.out]
    exact HM5.out
end Types
end Go.Proofs.YtjchplgapaeagaaDoor
namespace Go.Proofs.YtjchplgapaeagaaDoor
open Go.RowKit
set_option linter.unusedVariables false
set_option linter.unusedSimpArgs false
namespace Types

set_option maxRecDepth 100000 in
set_option maxHeartbeats 6400000 in
theorem eachF {α : Type} (k1 : Value) (Inv : α → (Nat → Bool) → World → Prop) (step : α → Int → α) (ok : α → Int → Prop)
    (hC : ∀ a v Q W, Inv a Q W → ok a v → Calls Tryd.prog 62 #[.int .i64 v, k1] W fun en W' => en = .returned (.tuple #[]) ∧ ∃ Q', Inv (step a v) Q' W' ∧ QSt Q W Q' W')
    (hI : ∀ a Q W O, Inv a Q W → Inv a Q (W.alloc O)) (hQ : ∀ a Q W, Inv a Q W → ∀ b, W.heap.size ≤ b → Q b = true) :
    ∀ (m : Nat) (ts : List Ty) (p : Option Addr) (l d : Nat) (a : α) (Q : Nat → Bool) (w : World), wts ts ≤ m → ts.length = l → l ≤ maxLen → Kids (veil Q w) p ts → Inv a Q w → EOk step ok a (evK ts) →
    Calls Tryd.prog 47 #[.func (.func 62) #[] #[k1], .slice p l d] w fun en w' => en = .returned (.tuple #[]) ∧ ∃ Q', Inv ((evK ts).foldl step a) Q' w' ∧ QSt Q w Q' w' := by
  intro m
  induction m using Nat.strongRecOn with
  | _ m ih =>
    intro ts p l d a Q w hm hl hlm hk hi hok
    unfold maxLen at hlm
    have HM := Lib.hid hm; have HL := Lib.hid hl; have HKI := Lib.hid hk; have HIN := Lib.hid hi; have HOK := Lib.hid hok; have IH := Lib.hid ih; have HC := Lib.hid hC; have HI := Lib.hid hI; have HQ := Lib.hid hQ
    clear hm hl hk hi hok ih hC hI hQ
    go_enter Tryd.func47, Tryd.ntmps47
    go_wp2_with (fail)
    go_loopw [8] (fun i wr => ∃ (j : Nat) (b : α) (Qb : Nat → Bool), j ≤ l ∧ i = .int .i64 j ∧ Hid (Inv b Qb wr) ∧ Hid ((evK ts).foldl step a = (evK (ts.drop j)).foldl step b) ∧ Hid (EOk step ok b (evK (ts.drop j))) ∧ Hid (QSt Q w Qb wr)) (fun i _ => l - (intOf i).toNat)
    case atStart => exact ⟨0, a, Q, Nat.zero_le _, rfl, HIN, Lib.hid (by rw [List.drop_zero]), Lib.hid (by rw [List.drop_zero]; exact HOK.out), Lib.hid (QSt.refl _ _)⟩
    case round =>
      obtain ⟨j, b, Qb, hj, rfl, HB, HF, HO, HK⟩ := hrel
      by_cases hlt : j < l
      · have hjk : j < ts.length := by rw [HL.out]; exact hlt
        have hkr := HK.out.kids HKI.out
        obtain ⟨bb, o, q, c', rfl, hkid, e0, e1, e2⟩ := hkr.get j hjk
        have c0 := (veil_seen e0).2
        have c1 := (veil_seen e1).2
        have c2 := (veil_seen e2).2
        have hwm : wts (tget ts j).ks < wts ts := by have h1 := wts_get hjk; have h2 := wt_ks (tget ts j); omega
        have hnew : Qb wr.heap.size = true := HQ.out _ _ _ HB.out _ (Nat.le_refl _)
        have hev := evK_drop ts j hjk
        have HJK := Lib.hid hjk; have HKID := Lib.hid hkid; have HWM := Lib.hid hwm; have HN := Lib.hid hnew; have HEV := Lib.hid hev
        have HB1 := Lib.hid (HI.out b Qb wr (.cells #[.int .u8 (tget ts j).h.k, .int .i64 (tget ts j).h.v, .slice q (tget ts j).ks.length c'] 25) HB.out)
        have HX := Lib.hid (heap_alloc_new wr (.cells #[.int .u8 (tget ts j).h.k, .int .i64 (tget ts j).h.v, .slice q (tget ts j).ks.length c'] 25))
        clear hjk hkr hkid hwm hnew hev e0 e1 e2 HB
        by_cases h5 : (tget ts j).h.k = 5
        · have h5' : ((tget ts j).h.k == 5) = true := by rw [h5]; rfl
          have hevt := HEV.out
          rw [evT_eq, if_pos h5] at hevt
          have ho := HO.out
          rw [hevt] at ho
          have HF2 := Lib.hid (HF.out.trans (by rw [hevt]; rfl : _ = (evK (tget ts j).ks ++ evK (ts.drop (j + 1))).foldl step (step b (tget ts j).h.v)))
          have HO1 := Lib.hid ho.1; have HO2 := Lib.hid (show EOk step ok (step b (tget ts j).h.v) (evK (tget ts j).ks ++ evK (ts.drop (j + 1))) from ho.2)
          have hcc := HC.out b (tget ts j).h.v Qb _ HB1.out HO1.out
          have HCC := Lib.hid hcc
          clear hevt ho h5 hcc HF HO
          go_wp2_with (fail)
          refine HCC.out.mono ?_
          rintro en w1 ⟨rfl, Q1, hi1, hk1⟩
          have hx1 := (hk1.1.block _ (lt_of_block HX.out) HN.out).trans HX.out
          obtain ⟨⟨g0, g1, g2⟩, -, gl⟩ := c3 hx1
          have HK1 := Lib.hid ((HK.out.trans (QSt.alloc _)).trans hk1)
          have HI1 := Lib.hid hi1
          have hsp := eok_append HO2.out
          have HS1 := Lib.hid hsp.1; have HS2 := Lib.hid hsp.2
          have hih := IH.out (wts (tget ts j).ks) (by have := HWM.out; have := HM.out; omega) (tget ts j).ks q _ c' _ Q1 w1 (Nat.le_refl _) rfl (Nat.le_trans HKID.out.cap.1 HKID.out.cap.2) (((QSt.alloc _).trans hk1).kids HKID.out.kids) HI1.out HS1.out
          have HIH := Lib.hid hih
          clear hx1 hi1 hk1 hsp hih c0 c1 c2 h5'
          go_wp2_with (fail)
          refine HIH.out.mono ?_
          rintro en w2 ⟨rfl, Q2, hi2, hk2⟩
          have HK2 := Lib.hid (HK1.out.trans hk2); have HI2 := Lib.hid hi2
          clear hi2 hk2 g0 g1 g2 gl
          go_wp2_with (fail)
          go_roundw
          case rel => exact ⟨j + 1, _, _, by omega, by go_num, HI2, Lib.hid (by rw [HF2.out, List.foldl_append]), HS2, HK2⟩
          case measure => simp [intOf]; omega
        · have h5' : ((tget ts j).h.k == 5) = false := beq_eq_false_iff_ne.2 h5
          have hevt := HEV.out
          rw [evT_eq, if_neg h5, List.nil_append] at hevt
          have ho := HO.out
          rw [hevt] at ho
          have HF2 := Lib.hid (HF.out.trans (by rw [hevt] : _ = (evK (tget ts j).ks ++ evK (ts.drop (j + 1))).foldl step b))
          have hsp := eok_append ho
          have HS1 := Lib.hid hsp.1; have HS2 := Lib.hid hsp.2
          have hk1 := HK.out.trans (QSt.alloc (.cells #[.int .u8 (tget ts j).h.k, .int .i64 (tget ts j).h.v, .slice q (tget ts j).ks.length c'] 25))
          have HK1 := Lib.hid hk1
          have hih := IH.out (wts (tget ts j).ks) (by have := HWM.out; have := HM.out; omega) (tget ts j).ks q _ c' b Qb (wr.alloc (.cells #[.int .u8 (tget ts j).h.k, .int .i64 (tget ts j).h.v, .slice q (tget ts j).ks.length c'] 25)) (Nat.le_refl _) rfl (Nat.le_trans HKID.out.cap.1 HKID.out.cap.2) ((QSt.alloc _).kids HKID.out.kids) HB1.out HS1.out
          have HIH := Lib.hid hih
          clear hevt ho h5 hsp hk1 hih HF HO
          go_wp2_with (fail)
          refine HIH.out.mono ?_
          rintro en w2 ⟨rfl, Q2, hi2, hk2⟩
          have HK2 := Lib.hid (HK1.out.trans hk2); have HI2 := Lib.hid hi2
          clear hi2 hk2 c0 c1 c2
          go_wp2_with (fail)
          go_roundw
          case rel => exact ⟨j + 1, _, _, by omega, by go_num, HI2, Lib.hid (by rw [HF2.out, List.foldl_append]), HS2, HK2⟩
          case measure => simp [intOf]; omega
      · obtain rfl : j = l := by omega
        have hr := HF.out
        rw [List.drop_eq_nil_of_le (by rw [HL.out]; exact Nat.le_refl _), evK_nil] at hr
        have HR := Lib.hid (show Inv ((evK ts).foldl step a) Qb wr by rw [hr]; exact HB.out)
        clear hr
        go_wp2_with (fail)
        exact bodyPost_end (results_none rfl _ _ _) rfl ⟨rfl, Qb, HR.out, HK.out⟩
end Types
end Go.Proofs.YtjchplgapaeagaaDoor
namespace Go.Proofs.YtjchplgapaeagaaDoor
open Go.RowKit
set_option linter.unusedVariables false
set_option linter.unusedSimpArgs false
namespace Types

/-- A row of ints in a box. -/
structure RowV (B Nm : Nat) (l : List Int) (W : World) : Prop where
  row : ∃ a c, W.heap[Nm]? = some (.cells #[.slice a l.length c] 31 (0, 0)) ∧ W.ownsRow B 3 1 (.slice a l.length c) l.length (ints l)
  ap : Nm < B ∧ B ≤ W.heap.size
theorem RowV.alloc {B Nm : Nat} {l : List Int} {W : World} (h : RowV B Nm l W) (O : Obj) : RowV B Nm l (W.alloc O) := by
  obtain ⟨a, c, q1, q2⟩ := h.row
  have b1 := al_new (W := W) O
  have := h.ap
  exact ⟨⟨a, c, (b1.block _ (lt_of_block q1)).trans q1, own_all q2 b1⟩, by simp; omega⟩
set_option maxRecDepth 100000 in
set_option maxHeartbeats 6400000 in
theorem fits1_walk (B Nm : Nat) (l : List Int) (v : Int) (W : World) (hI : RowV B Nm l W) (hl : l.length < 1000000000) :
    Calls Tryd.prog 62 #[.int .i64 v, .pointer (some ⟨Nm, 0, none⟩)] W fun en W' => en = .returned (.tuple #[]) ∧ RowV B Nm (l ++ [v]) W' ∧ Kp (fun b => decide (b < B ∧ b ≠ Nm)) W W' ∧ Kr Nm (fun _ => true) W W' := by
  obtain ⟨i0, hi, hz0, hz1, hz2⟩ := info_parts infoInt
  obtain ⟨a, c, hxm, hown⟩ := hI.row
  obtain ⟨hNB, hBW⟩ := hI.ap
  obtain ⟨y0, yf, yl⟩ := c1 hxm
  have HXM := Lib.hid hxm; have HOWN := Lib.hid hown; have HINF := Lib.hid hi; have HZ0 := Lib.hid hz0; have HZ1 := Lib.hid hz1; have HZ2 := Lib.hid hz2
  clear hI hxm hown hi hz0 hz1 hz2
  go_enter Tryd.func62, Tryd.ntmps62
  go_wp2_with (at_builtin; refine wpList_append_own_at _ rfl (.tmp 3) (.tmp 5) 31 rfl B 3 i0 _ 1 8 Tryd.underlying31 HINF.out HZ0.out HZ1.out HZ2.out rfl (by decide) (.slice a l.length c) l.length (ints l) rfl (own_all HOWN.out (al_new _)) ⟨W.heap.size, 0, none⟩ 1 1 [.int .i64 v] rfl rfl (new_int rfl) (one_int _) (by unfold maxLen; omega) (by omega) (by simp; omega) ?_; intro v' w3 hown3 hgrow3 _ hat3; obtain ⟨a3, c3, rfl, hc3, hn3⟩ := own_slice hown3; have hbl := (Below.refl B _).grown hgrow3 (by simp; omega) (fun g hg => ((own_all HOWN.out (al_new (.cells #[.int .i64 v] 3))).lt g hg).1); have HBL := Lib.hid hbl; have HO3 := Lib.hid hown3; have HX3 := Lib.hid ((hbl.block Nm hNB).trans (((al_new _).block _ (lt_of_block HXM.out)).trans HXM.out)); obtain ⟨q0, qf, ql⟩ := c1 HX3.out; have HGR := Lib.hid hgrow3; have HAT := Lib.hid hat3; clear hown3 hgrow3 hat3 hbl hc3 hn3)
  have hset : (w3.setCell ⟨Nm, 0, none⟩ (.slice a3 (l.length + 1) c3)).heap[Nm]? = some (.cells #[.slice a3 (l.length + 1) c3] 31 (0, 0)) := by
    have := HX3.out
    simp [World.setCell, Array.getElem?_modify, this]
  have hoff : ∀ b, b ≠ Nm → (w3.setCell ⟨Nm, 0, none⟩ (.slice a3 (l.length + 1) c3)).heap[b]? = w3.heap[b]? := fun b hb => Below.heap_setCell _ _ _ _ hb
  have hkp : Kp (fun b => decide (b ≠ Nm)) w3 (w3.setCell ⟨Nm, 0, none⟩ (.slice a3 (l.length + 1) c3)) := (Kp.refl _ _).set (by simp) 0 _
  have hsz : (w3.setCell ⟨Nm, 0, none⟩ (.slice a3 (l.length + 1) c3)).heap.size = w3.heap.size := by simp [World.setCell]
  have hkr : Kr Nm (fun _ => true) W (w3.setCell ⟨Nm, 0, none⟩ (.slice a3 (l.length + 1) c3)) := (Kr.alloc (.cells #[.int .i64 v] 3) (lt_of_block HXM.out)).trans (Kr.push (((al_new _).block _ (lt_of_block HXM.out)).trans HXM.out) (fun e => by have := (HOWN.out.lt _ e).1; omega) HGR.out HAT.out)
  generalize w3.setCell ⟨Nm, 0, none⟩ (.slice a3 (l.length + 1) c3) = w9 at *
  have hl3 : W.heap.size + 1 ≤ w3.heap.size := by have := HBL.out.size; simpa using this
  have hb3 : ∀ b, b < B → w3.heap[b]? = W.heap[b]? := fun b hb => (HBL.out.block b hb).trans ((al_new _).block b (by omega))
  have hO9 := own_kp HO3.out hkp hNB
  have hin : ints l ++ [.int .i64 v] = ints (l ++ [v]) := by unfold ints; simp
  rw [hin] at hO9
  refine bodyPost_end (results_none rfl _ _ _) rfl ⟨rfl, ⟨⟨a3, c3, ?_, ?_⟩, by omega⟩, ⟨hkp.os.trans HBL.out.os, hkp.tape.trans HBL.out.tape, hkp.output.trans HBL.out.output, by omega, fun b hb hp => (hoff b (of_decide_eq_true hp).2).trans (hb3 b (of_decide_eq_true hp).1)⟩, hkr⟩
  · rw [List.length_append]; exact hset
  · rw [List.length_append]; exact hO9
end Types
end Go.Proofs.YtjchplgapaeagaaDoor
namespace Go.Proofs.YtjchplgapaeagaaDoor
set_option linter.unusedVariables false
namespace Types

theorem Bo.more {n : Nat} {nm : Nat → Nat} {st : Nat → Option Ty} {g g' : Nat → Bool} {r : Nat → Nat} (h : Bo n nm st g r) (hg : ∀ v, g v = true → g' v = true) : Bo n nm st g' r := { h with inn := fun v t ht w hw => hg _ (h.inn v t ht w hw) }
structure SmM (n0 : Nat) (nm0 : Nat → Nat) (st0 : Nat → Option Ty) (r0 : Nat → Nat) (ts : List Ty) (g0 : Nat → Bool) (bud : Nat) (u : Up) (row : List (Nat × Nat)) (joined : List Nat) (N : Nat) (e : Nat → Option Ty) (g : Nat → Bool) (nm : Nat → Nat) (st : Nat → Option Ty) (O : Nat → Ty) (par pos : Nat → Nat) : Prop where
  tri : TrI n0 nm0 st0 (senB n0 nm0 st0 r0) (opN n0 ts) (AllOne ts) N nm st O par pos row joined g
  rep : Rep (cmb u e) nm st
  n1 : opN n0 ts ≤ N
  bud : N + sO N st ≤ bud
  more : ∀ v, g0 v = true → g v = true
  jlt : ∀ v ∈ joined, v < N
theorem allOne_congr {n0 : Nat} {ts : List Ty} (hv : ∀ s ∈ ts, ∀ w ∈ varsT s, w < n0) (θ ψ : Nat → Ty) (h : ∀ v, v < n0 → θ v = ψ v) (ha : AllOne ts θ) : AllOne ts ψ := fun s hs s' hs' => by
  rw [← inst_congr s fun w hw => h w (hv s hs w hw), ← inst_congr s' fun w hw => h w (hv s' hs' w hw)]
  exact ha s hs s' hs'
section
variable {n0 : Nat} {nm0 : Nat → Nat} {st0 : Nat → Option Ty} {r0 : Nat → Nat} {ts : List Ty} {g0 : Nat → Bool} {bud : Nat} {u : Up} {row : List (Nat × Nat)} {joined : List Nat} {N : Nat} {e : Nat → Option Ty} {g : Nat → Bool} {nm : Nat → Nat} {st : Nat → Option Ty} {O : Nat → Ty} {par pos : Nat → Nat}
theorem SmM.start (hb : Bo n0 nm0 st0 g0 r0) (hr : Rep (cmb u e) nm0 st0) (hf : ∀ v, n0 ≤ v → cmb u e v = none) (hl : ∀ s ∈ ts, mayT s = true ∧ (∀ w ∈ varsT s, w < n0) ∧ (s.h.k ≠ 5 → ∀ w ∈ varsT s, g0 (nm0 w) = true)) (hbud : n0 + sO n0 st0 + nvK ts ≤ bud) :
    ∃ O par pos, SmM n0 nm0 st0 r0 ts g0 bud u (row0 (opV n0 ts)) [] (opN n0 ts) (opF e n0 ts) g0 nm0 (opF st0 n0 ts) O par pos := by
  refine ⟨_, _, _, TrI.begin hb ts hl (fun _ => 0) (fun _ => 0), ?_, Nat.le_refl _, ?_, fun v hv => hv, fun v hv => by cases hv⟩
  · rw [cmb_opF]
    exact (Rep.opens ts n0 _ _ hr hf fun s hs => (hl s hs).1).1
  · have := (op_sums ts n0 nm0 st0 fun s hs => (hl s hs).1).2
    omega
/-- A pair of one name. -/
theorem SmM.equal {rest : List (Nat × Nat)} {x y : Nat} (h : SmM n0 nm0 st0 r0 ts g0 bud u (rest ++ [(x, y)]) joined N e g nm st O par pos) (he : nm x = nm y) : SmM n0 nm0 st0 r0 ts g0 bud u rest joined N e g nm st O par pos :=
  { h with tri := h.tri.drop (x := x) (y := y) (fun p => by rw [List.mem_append, List.mem_singleton]) he }
/-- The book's map is another one. -/
theorem SmM.halved (h : SmM n0 nm0 st0 r0 ts g0 bud u row joined N e g nm st O par pos) {e' : Nat → Option Ty} (hr : Rep (cmb u e') nm st) : SmM n0 nm0 st0 r0 ts g0 bud u row joined N e' g nm st O par pos := { h with rep := hr }
theorem nm_lt (h : SmM n0 nm0 st0 r0 ts g0 bud u row joined N e g nm st O par pos) {x : Nat} (hx : x < N) : nm x < N := Nat.lt_of_le_of_lt (h.tri.le x) hx
/-- A pair of two names. -/
theorem SmM.next {rest : List (Nat × Nat)} {x y : Nat} (h : SmM n0 nm0 st0 r0 ts g0 bud u (rest ++ [(x, y)]) joined N e g nm st O par pos) (hb : Bo n0 nm0 st0 g0 r0) (hv : ∀ s ∈ ts, ∀ w ∈ varsT s, w < n0) (hf : ∀ v, N ≤ v → cmb u e v = none) (hne : nm x ≠ nm y)
    {lo hi : Nat} (hlo : lo = min (nm x) (nm y)) (hhi : hi = max (nm x) (nm y)) {aa bb : List Nat} {n' : Nat} {e' : Nat → Option Ty} {can : Bool} (ho : oneR u N e lo hi = (aa, bb, n', e', can)) :
    (can = false → ∀ θ, ¬ (SolA nm0 st0 θ ∧ AllOne ts θ)) ∧
    (can = true → aa.length = bb.length ∧ n' ≤ N + 4 ∧ N ≤ n' ∧ ∃ st' O' par' pos', SmM n0 nm0 st0 r0 ts g0 bud u (rest ++ aa.zip bb) (joined ++ [nm x, nm y]) n' e' (gU g lo hi) (nmU nm lo hi) st' O' par' pos' ∧ aa.length + 2 * sS n' (nmU nm lo hi) st' ≤ 2 * sS N nm st) := by
  have hxy : x < N ∧ y < N := h.tri.rowlt (x, y) (by simp)
  have hxn := nm_lt h hxy.1
  have hyn := nm_lt h hxy.2
  have hcase : (nm x = lo ∧ nm y = hi) ∨ (nm x = hi ∧ nm y = lo) := by omega
  have hB : ∀ v, n0 ≤ v → nm0 v = v := fun v hv => (hb.out v hv).1
  obtain ⟨h1, h2⟩ := h.tri.one hB hb.le h.n1 h.rep hf (rest := rest) (joined' := joined ++ [nm x, nm y]) (x := x) (y := y) (lo := lo) (hi := hi) (fun p => by rw [List.mem_append, List.mem_singleton]) (fun v => by
    rw [List.mem_append, List.mem_cons, List.mem_singleton]
    constructor
    · rintro (a | a | a)
      · exact .inl a
      · subst a; rcases hcase with ⟨q, _⟩ | ⟨q, _⟩
        · exact .inr (.inl q)
        · exact .inr (.inr q)
      · subst a; rcases hcase with ⟨_, q⟩ | ⟨_, q⟩
        · exact .inr (.inr q)
        · exact .inr (.inl q)
    · rintro (a | a | a)
      · exact .inl a
      · subst a; rcases hcase with ⟨q, _⟩ | ⟨_, q⟩
        · exact .inr (.inl q.symm)
        · exact .inr (.inr q.symm)
      · subst a; rcases hcase with ⟨_, q⟩ | ⟨q, _⟩
        · exact .inr (.inr q.symm)
        · exact .inr (.inl q.symm)) (by omega) (by omega) hcase ho
  have hid : ∀ v, nm (nm v) = nm v := h.tri.id
  refine ⟨fun hc θ => ?_, fun hc => ?_⟩
  · obtain ⟨t, o, ht, ho', hk⟩ := h1 hc
    have hb' := hb.more h.more
    refine h.tri.cant hb' (allOne_congr hv) (fun θ' q1 q2 => ?_) θ
    rcases hcase with ⟨a, b⟩ | ⟨a, b⟩
    · exact h.tri.kinds (x := x) (y := y) (by simp) (by rw [a]; exact ht) (by rw [b]; exact ho') hk θ' q1 q2
    · exact h.tri.kinds (x := x) (y := y) (by simp) (by rw [a]; exact ho') (by rw [b]; exact ht) (fun q => hk q.symm) θ' q1 q2
  · obtain ⟨q1, q2, q3, q4⟩ := h2 hc
    obtain ⟨st', O', par', pos', r1, r2, r3, r4, r5⟩ := q4 (rest ++ aa.zip bb) (fun p => by rw [List.mem_append])
    exact ⟨q1, q3, q2, st', O', par', pos', ⟨r1, r2, Nat.le_trans h.n1 q2, Nat.le_trans r5 h.bud, fun v hv => gU_of (h.more v hv), fun v hv => by
      rcases List.mem_append.1 hv with hv | hv
      · have := h.jlt v hv; omega
      · rcases List.mem_cons.1 hv with e | hv
        · omega
        · rw [List.mem_singleton] at hv; omega⟩, r4⟩
theorem SmM.few (h : SmM n0 nm0 st0 r0 ts g0 bud u row joined N e g nm st O par pos) : sS N nm st ≤ 2 * bud := by
  have h1 : sS N nm st ≤ sumN N (fun v => wO st v + 1) := sumN_le fun v _ => by
    unfold wS wO
    cases hs : st v with
    | none => show (if nm v = v then 1 else 0) ≤ 0 + 1; split <;> omega
    | some t =>
      have := nv_eq t
      rw [if_neg (h.tri.name v t hs).2.2.2.1] at this
      show nv t ≤ nvK t.ks + 1
      omega
  have h2 : ∀ n : Nat, sumN n (fun _ => 1) = n := by
    intro n
    induction n with
    | zero => rfl
    | succ n ih => unfold sumN; rw [ih]
  have h3 := sumN_add N (wO st) (fun _ => 1)
  rw [h2] at h3
  have := h.bud
  unfold sO at this
  omega
theorem SmM.tot (h : SmM n0 nm0 st0 r0 ts g0 bud u row joined N e g nm st O par pos) : sumN N (wT st) ≤ bud := by
  have h1 : sumN N (wT st) ≤ sumN N (fun v => 1 + wO st v) := sumN_le fun v _ => by
    unfold wT wO
    cases hs : st v with
    | none => exact Nat.zero_le _
    | some t =>
      have := nv_eq t
      rw [if_neg (h.tri.name v t hs).2.2.2.1] at this
      show nv t ≤ 1 + nvK t.ks
      omega
  have h2 : ∀ n : Nat, sumN n (fun _ => 1) = n := by
    intro n
    induction n with
    | zero => rfl
    | succ n ih => unfold sumN; rw [ih]
  have h3 := sumN_add N (fun _ => 1) (wO st)
  rw [h2] at h3
  have := h.bud
  unfold sO at this
  omega
end
end Types
end Go.Proofs.YtjchplgapaeagaaDoor
namespace Go.Proofs.YtjchplgapaeagaaDoor
open Go.RowKit
set_option linter.unusedVariables false
set_option linter.unusedSimpArgs false
namespace Types

/-- An append in a region that draws its order. -/
theorem wp_append_own {P : Program} {a : Act} {w : World} {K : Act → World → Prop} {Q : Exit → Act → World → Prop} {ps : String} {ty : TypeId} {af : Array Edge} {d : Nat} (s x : Operand) (t : TypeId)
    (base : Nat) (e : TypeId) (i : TypeInfo) (z : Value) (size bytes : Nat) (ht : P.underlying t = some (.slice e)) (hi : P.info? e = some i) (hz : i.zero = some z)
    (hsize : i.size = size) (hby : i.bytes = bytes) (hzs : z.cells.size = size) (hsz : 0 < size)
    (v : Value) (n : Nat) (xs : List Value) (hs : a.eval s = v) (hown : w.ownsRow base e size v n xs)
    (ad : Addr) (m c : Nat) (news : List Value) (hx : a.eval x = .slice (some ad) m c) (hl : news.length = m * size) (hnews : ∀ j u, news[j]? = some u → w.cell? (ad.add j) = some u) (h1 : ∀ u ∈ news, u.oneCell' = true)
    (h63 : n + m ≤ maxLen) (hbytes : (n + m) * bytes ≤ 140737488355328) (hbase : base ≤ w.heap.size)
    (h : ∀ v' w', w'.ownsRow base e size v' (n + m) (xs ++ news) → w.grownBy w' v.ownBlock → (v'.ownBlock = v.ownBlock ∨ v'.ownBlock = some w.heap.size) → K (a.put (some d) v') w') :
    Oper.wp P { dst := some d, op := .call { callee := .builtin .append, args := #[s, x], argTypes := #[t, t] }, type := ty, pos := ps, after := af, guard := none } a w K Q := by
  obtain ⟨v', w', hr, h2, h3, h4, h5⟩ := run_append_own_at (P := P) w base t ty e i z size bytes ht hi hz hsize hby hzs hsz v n xs hown ad m c news hl hnews h1 h63 hbytes hbase
  unfold Oper.wp execOp
  simp only [resolve, invoke, builtin, Sem.run_bind, Sem.run_pure, Result.andThen_ok, List.map_toArray, List.map_cons, List.map_nil, hs, hx, hr]
  exact h v' w' h2 h3 h5
/-- What is seen but for a row's block. -/
def seen (P : Nat → Bool) (v : Value) (b : Nat) : Bool := P b && decide (v.ownBlock ≠ some b)
theorem seen_le {P : Nat → Bool} {v : Value} {b : Nat} (h : seen P v b = true) : P b = true := (Bool.and_eq_true_iff.1 h).1
theorem seen_of {P : Nat → Bool} {v : Value} {b : Nat} (h : P b = true) (hv : v.ownBlock ≠ some b) : seen P v b = true := by unfold seen; rw [h, decide_eq_true hv]; rfl
theorem seen_no {P : Nat → Bool} {v : Value} {b : Nat} (h : P b = false) : seen P v b = false := by unfold seen; rw [h]; rfl
theorem seen_at {P : Nat → Bool} {v : Value} {b : Nat} (h : v.ownBlock = some b) : seen P v b = false := by unfold seen; rw [h]; simp
/-- Two rows and a book, apart. -/
structure Sm (P : Nat → Bool) (k : Bk) (u : Up) (n : Nat) (e : Nat → Option Ty) (g : Nat → Bool) (w : World) (P1 : Nat → Bool) (vr vj : Value) (W : World) : Prop where
  le : ∀ b, P1 b = true → P b = true
  new : ∀ b, W.heap.size ≤ b → P1 b = true
  r : ∀ b, vr.ownBlock = some b → P1 b = false ∧ w.heap.size ≤ b
  j : ∀ b, vj.ownBlock = some b → P1 b = false ∧ w.heap.size ≤ b
  ne : ∀ b, vr.ownBlock = some b → vj.ownBlock ≠ some b
  tb : TBk P1 W k u n e g
  kp : Kp (fun b => decide (b ≠ k.b ∧ b ≠ k.s ∧ b ≠ k.i)) w W
  low : (k.b < w.heap.size ∧ k.s < w.heap.size ∧ k.i < w.heap.size) ∧ ∀ x, u = some x → x.1.b < w.heap.size ∧ x.1.s < w.heap.size
theorem own_row_lt {w : World} {B : Nat} {e : TypeId} {s n : Nat} {v : Value} {xs : List Value} (h : w.ownsRow B e s v n xs) {b : Nat} (hb : v.ownBlock = some b) : b < w.heap.size ∧ B ≤ b := by
  have := h.lt b hb
  exact ⟨this.2, this.1⟩
section
variable {P P1 : Nat → Bool} {k : Bk} {u : Up} {n n' : Nat} {e e' : Nat → Option Ty} {g g' : Nat → Bool} {w W W' : World} {vr vj v' : Value}
theorem Sm.below (h : Sm P k u n e g w P1 vr vj W) (hb : Below W.heap.size W W') : Sm P k u n e g w P1 vr vj W' :=
  { h with new := fun b hb' => h.new b (Nat.le_trans hb.size hb'), tb := h.tb.below hb, kp := h.kp.trans (Kp.of_below hb) }
theorem Sm.call (h : Sm P k u n e g w P1 vr vj W) (ht : TBk P1 W' k u n' e' g') (hk : Kp (fun b => decide (b ≠ k.b ∧ b ≠ k.s ∧ b ≠ k.i)) W W') : Sm P k u n' e' g' w P1 vr vj W' :=
  { h with new := fun b hb' => h.new b (Nat.le_trans hk.size hb'), tb := ht, kp := h.kp.trans hk }
theorem seen_tb (h : TBk P1 W k u n e g) (hg : W.grownBy W' vr.ownBlock) (hr : ∀ b, vr.ownBlock = some b → P1 b = false ∧ b ≠ k.b ∧ b ≠ k.s ∧ b ≠ k.i ∧ ∀ x, u = some x → b ≠ x.1.b ∧ b ≠ x.1.s)
    (hv : v'.ownBlock = vr.ownBlock ∨ v'.ownBlock = some W.heap.size) : TBk (seen P1 v') W' k u n e g := by
  have h1 : Reads (veil P1 W) (veil (seen P1 v') W) := veil_to fun b hb hp => ⟨seen_of hp fun e => by
    rcases hv with hv | hv
    · rw [hv] at e; rw [(hr b e).1] at hp; cases hp
    · rw [hv] at e; injection e with e; omega, rfl⟩
  have h2 := h.reP h1 (seen_no h.me.pb) (seen_no h.me.ps) (seen_no h.me.pi) fun x hx => ⟨seen_no (h.upP x hx).1, seen_no (h.upP x hx).2⟩
  refine h2.kept (Q := fun b => decide (vr.ownBlock ≠ some b)) ⟨hg.os, hg.tape, hg.output, hg.size, fun b hb hp => hg.block b hb (fun e => of_decide_eq_true hp e.symm)⟩ (fun b hb => decide_eq_true fun e => ?_) ⟨decide_eq_true fun e => (hr _ e).2.1 rfl, decide_eq_true fun e => (hr _ e).2.2.1 rfl, decide_eq_true fun e => (hr _ e).2.2.2.1 rfl⟩
    fun x hx => ⟨decide_eq_true fun e => ((hr _ e).2.2.2.2 x hx).1 rfl, decide_eq_true fun e => ((hr _ e).2.2.2.2 x hx).2 rfl⟩
  rw [seen_no (hr b e).1] at hb; cases hb
theorem grown_kp (h : Kp (fun b => decide (b ≠ k.b ∧ b ≠ k.s ∧ b ≠ k.i)) w W) (hg : W.grownBy W' vr.ownBlock) (hr : ∀ b, vr.ownBlock = some b → w.heap.size ≤ b) : Kp (fun b => decide (b ≠ k.b ∧ b ≠ k.s ∧ b ≠ k.i)) w W' :=
  ⟨hg.os.trans h.os, hg.tape.trans h.tape, hg.output.trans h.output, Nat.le_trans h.size hg.size, fun b hb hp => (hg.block b (Nat.lt_of_lt_of_le hb h.size) fun e => by have := hr b e.symm; omega).trans (h.block b hb hp)⟩
theorem Sm.apart (h : Sm P k u n e g w P1 vr vj W) {v : Value} (hv : ∀ b, v.ownBlock = some b → P1 b = false ∧ w.heap.size ≤ b) : ∀ b, v.ownBlock = some b → P1 b = false ∧ b ≠ k.b ∧ b ≠ k.s ∧ b ≠ k.i ∧ ∀ x, u = some x → b ≠ x.1.b ∧ b ≠ x.1.s := fun b e => by
  obtain ⟨a, c⟩ := hv b e
  obtain ⟨⟨l1, l2, l3⟩, l4⟩ := h.low
  exact ⟨a, by omega, by omega, by omega, fun x hx => by have := l4 x hx; omega⟩
/-- The one row grows. -/
theorem Sm.growR (h : Sm P k u n e g w P1 vr vj W) (hg : W.grownBy W' vr.ownBlock) (hv : v'.ownBlock = vr.ownBlock ∨ v'.ownBlock = some W.heap.size) (hlt : ∀ b, v'.ownBlock = some b → b < W'.heap.size) (hj : ∀ b, vj.ownBlock = some b → b < W.heap.size) : Sm P k u n e g w (seen P1 v') v' vj W' := by
  refine ⟨fun b hb => h.le b (seen_le hb), fun b hb => seen_of (h.new b (Nat.le_trans hg.size hb)) (fun e => by have := hlt b e; omega), fun b e => ⟨seen_at e, ?_⟩, fun b e => ⟨seen_no (h.j b e).1, (h.j b e).2⟩, fun b e e2 => ?_, seen_tb h.tb hg (h.apart h.r) hv, grown_kp h.kp hg fun b e => (h.r b e).2, h.low⟩
  · rcases hv with hv | hv
    · rw [hv] at e; exact (h.r b e).2
    · rw [hv] at e; injection e with e; have := h.kp.size; omega
  · rcases hv with hv | hv
    · rw [hv] at e; exact h.ne b e e2
    · rw [hv] at e; injection e with e; have := hj b e2; omega
/-- .. the other one does. -/
theorem Sm.growJ (h : Sm P k u n e g w P1 vr vj W) (hg : W.grownBy W' vj.ownBlock) (hv : v'.ownBlock = vj.ownBlock ∨ v'.ownBlock = some W.heap.size) (hlt : ∀ b, v'.ownBlock = some b → b < W'.heap.size) (hj : ∀ b, vr.ownBlock = some b → b < W.heap.size) : Sm P k u n e g w (seen P1 v') vr v' W' := by
  refine ⟨fun b hb => h.le b (seen_le hb), fun b hb => seen_of (h.new b (Nat.le_trans hg.size hb)) (fun e => by have := hlt b e; omega), fun b e => ⟨seen_no (h.r b e).1, (h.r b e).2⟩, fun b e => ⟨seen_at e, ?_⟩, fun b e e2 => ?_, seen_tb h.tb hg (h.apart h.j) hv, grown_kp h.kp hg fun b e => (h.j b e).2, h.low⟩
  · rcases hv with hv | hv
    · rw [hv] at e; exact (h.j b e).2
    · rw [hv] at e; injection e with e; have := h.kp.size; omega
  · rcases hv with hv | hv
    · rw [hv] at e2; exact h.ne b e e2
    · rw [hv] at e2; injection e2 with e2; have := hj b e; omega
/-- Kids that are seen stay seen, where the row grows. -/
theorem seen_kids {q : Option Addr} {ts : List Ty} (h : Kids (veil P1 W) q ts) (hg : W.grownBy W' vr.ownBlock) (hr : ∀ b, vr.ownBlock = some b → P1 b = false) (hv : v'.ownBlock = vr.ownBlock ∨ v'.ownBlock = some W.heap.size) : Kids (veil (seen P1 v') W') q ts :=
  h.reads' (veil_to fun b hb hp => ⟨seen_of hp fun e => by
    rcases hv with hv | hv
    · rw [hv] at e; rw [hr b e] at hp; cases hp
    · rw [hv] at e; injection e with e; omega, hg.block b hb fun e => by rw [hr b e.symm] at hp; cases hp⟩)
/-- A row stays where another one grows, and over calls. -/
theorem own_grown {B : Nat} {t : TypeId} {s m : Nat} {xs : List Value} (h : W.ownsRow B t s vj m xs) (hg : W.grownBy W' vr.ownBlock) (hne : ∀ b, vr.ownBlock = some b → vj.ownBlock ≠ some b) : W'.ownsRow B t s vj m xs :=
  ⟨h.1, h.2.elim .inl fun ⟨b, cap, cur, h1, h2, h3, h4⟩ => .inr ⟨b, cap, cur, h1, h2, (hg.block b (lt_of_block h3) fun e => hne b e.symm (by rw [h1]; rfl)).trans h3, h4⟩⟩
theorem own_kp3 {B : Nat} {t : TypeId} {s m : Nat} {xs : List Value} (h : W.ownsRow B t s vj m xs) (hk : Kp (fun b => decide (b ≠ k.b ∧ b ≠ k.s ∧ b ≠ k.i)) W W') (hB : k.b < B ∧ k.s < B ∧ k.i < B) : W'.ownsRow B t s vj m xs :=
  ⟨h.1, h.2.elim .inl fun ⟨b, cap, cur, h1, h2, h3, h4⟩ => .inr ⟨b, cap, cur, h1, h2, (hk.block b (lt_of_block h3) (decide_eq_true ⟨by omega, by omega, by omega⟩)).trans h3, h4⟩⟩
theorem TBk.none_out (h : TBk P W k u n e g) (v : Nat) (hv : n ≤ v) : cmb u e v = none := by
  cases hc : cmb u e v with
  | none => rfl
  | some t =>
    have hu := h.up
    unfold cmb at hc
    cases he : e v with
    | some s => have := h.me.lt v s he; omega
    | none =>
      rw [he] at hc
      cases hx : u with
      | none => rw [hx] at hc; cases hc
      | some x =>
        rw [hx] at hc hu
        have h1 := hu.1.lt v t hc
        have h2 := hu.2.2.2.2.2.2
        omega
end
theorem cell_same {W V : World} {b i : Nat} (h : V.heap[b]? = W.heap[b]?) : V.cell? ⟨b, i, none⟩ = W.cell? ⟨b, i, none⟩ := by unfold World.cell?; rw [h]
end Types
end Go.Proofs.YtjchplgapaeagaaDoor
