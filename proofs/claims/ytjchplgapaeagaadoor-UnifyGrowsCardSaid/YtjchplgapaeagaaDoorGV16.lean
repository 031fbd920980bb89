/-The program's within. (Written by wip/tools/unwithin.py.) -/
import Derived.Test.YtjchplgapaeagaaDoorGV15
import Derived.Laws.EntriesVeiled
namespace Go.Proofs.YtjchplgapaeagaaDoor
open Go.RowKit
set_option linter.unusedVariables false
set_option linter.unusedSimpArgs false
namespace Types

/-- An order of names: each ahead of those that stand within it. -/
structure Ord (n : Nat) (nm : Nat → Nat) (st : Nat → Option Ty) (R : Nat → Prop) (l ord : List Nat) : Prop where
  nd : ord.Nodup
  mem : ∀ v ∈ ord, nm v = v ∧ v < n ∧ R v
  seed : ∀ x ∈ l, nm x ∈ ord
  cl : ∀ p ∈ ord, ∀ c ∈ namesN nm st p, c ∈ ord
  top : ∀ j v, ord[j]? = some v → ∀ p ∈ ord, v ∈ namesN nm st p → p ∈ ord.take j
def WEnd (P : Nat → Bool) (k : Bk) (u : Up) (n : Nat) (g : Nat → Bool) (nm : Nat → Nat) (st : Nat → Option Ty) (R : Nat → Prop) (most : Int) (l : List Nat) (w : World) (en : Ending) (w' : World) : Prop :=
  (∃ e', TBk P w' k u n e' g ∧ Rep (cmb u e') nm st) ∧ Kp (fun b => decide (b ≠ k.s)) w w' ∧
    ((∃ a c ord, en = .returned (.tuple #[.slice a ord.length c, .bool true]) ∧ w'.ownsRow w.heap.size 3 1 (.slice a ord.length c) ord.length (ints (ord.map fun v => ((v : Nat) : Int))) ∧ Ord n nm st R l ord ∧ (ord.length : Int) ≤ most) ∨
     (∃ v, en = .returned (.tuple #[v, .bool false]) ∧ ((∃ met : List Nat, met.Nodup ∧ (∀ v ∈ met, nm v = v ∧ v < n ∧ R v) ∧ most < (met.length : Int)) ∨ ∃ Z : List Nat, Z ≠ [] ∧ (∀ c ∈ Z, R c) ∧ ∀ c ∈ Z, ∃ p ∈ Z, c ∈ namesN nm st p)))
theorem own_rebase {W : World} {B B' : Nat} {t : TypeId} {s m : Nat} {v : Value} {xs : List Value} (h : W.ownsRow B t s v m xs) (hB : ∀ g, v.ownBlock = some g → B' ≤ g) : W.ownsRow B' t s v m xs :=
  ⟨h.1, h.2.elim .inl fun ⟨b, cap, cur, h1, h2, h3, h4⟩ => .inr ⟨b, cap, cur, h1, hB b (by rw [h1]; rfl), h3, h4⟩⟩
theorem own_len (a : Option Addr) (n n' c c' : Nat) : (Value.slice a n c).ownBlock = (Value.slice a n' c').ownBlock := by cases a <;> rfl
theorem sumN_at {F : Nat → Nat} : ∀ {n p : Nat}, p < n → F p ≤ sumN n F
  | n + 1, p, h => by
    show F p ≤ sumN n F + F n
    rcases Nat.lt_or_ge p n with q | q
    · have := sumN_at (F := F) q; omega
    · have : p = n := by omega
      subst this; omega
theorem c4' {W : World} {N : Nat} {a : Value} {ty : TypeId} (h : W.heap[N]? = some (.cells #[a] ty (0, 0))) : W.cell? ⟨N, 0, none⟩ = some a := (c1 h).1
theorem five (w : World) (o0 o1 o2 o3 o4 : Obj) : (((((w.alloc o0).alloc o1).alloc o2).alloc o3).alloc o4).heap.size = w.heap.size + 5 ∧ ((((((w.alloc o0).alloc o1).alloc o2).alloc o3).alloc o4).heap[w.heap.size]? = some o0 ∧ (((((w.alloc o0).alloc o1).alloc o2).alloc o3).alloc o4).heap[w.heap.size + 1]? = some o1 ∧ (((((w.alloc o0).alloc o1).alloc o2).alloc o3).alloc o4).heap[w.heap.size + 2]? = some o2 ∧ (((((w.alloc o0).alloc o1).alloc o2).alloc o3).alloc o4).heap[w.heap.size + 3]? = some o3 ∧ (((((w.alloc o0).alloc o1).alloc o2).alloc o3).alloc o4).heap[w.heap.size + 4]? = some o4) ∧ Below w.heap.size w (((((w.alloc o0).alloc o1).alloc o2).alloc o3).alloc o4) := by
  have z1 : (w.alloc o0).heap.size = w.heap.size + 1 := by simp
  have z2 : ((w.alloc o0).alloc o1).heap.size = w.heap.size + 2 := by simp
  have z3 : (((w.alloc o0).alloc o1).alloc o2).heap.size = w.heap.size + 3 := by simp
  have z4 : ((((w.alloc o0).alloc o1).alloc o2).alloc o3).heap.size = w.heap.size + 4 := by simp
  have x0 := heap_alloc_new w o0
  have x1 := heap_alloc_new (w.alloc o0) o1
  have x2 := heap_alloc_new ((w.alloc o0).alloc o1) o2
  have x3 := heap_alloc_new (((w.alloc o0).alloc o1).alloc o2) o3
  have x4 := heap_alloc_new ((((w.alloc o0).alloc o1).alloc o2).alloc o3) o4
  rw [z1] at x1; rw [z2] at x2; rw [z3] at x3; rw [z4] at x4
  have b1 := al_new (W := w.alloc o0) o1
  have b2 := al_new (W := (w.alloc o0).alloc o1) o2
  have b3 := al_new (W := ((w.alloc o0).alloc o1).alloc o2) o3
  have b4 := al_new (W := (((w.alloc o0).alloc o1).alloc o2).alloc o3) o4
  rw [z1] at b1; rw [z2] at b2; rw [z3] at b3; rw [z4] at b4
  refine ⟨by simp, ⟨?_, ?_, ?_, ?_, x4⟩, ((((al_new o0).alloc (by omega) _).alloc (by omega) _).alloc (by omega) _).alloc (by omega) _⟩
  · exact (b4.block _ (by omega)).trans ((b3.block _ (by omega)).trans ((b2.block _ (by omega)).trans ((b1.block _ (by omega)).trans x0)))
  · exact (b4.block _ (by omega)).trans ((b3.block _ (by omega)).trans ((b2.block _ (by omega)).trans x1))
  · exact (b4.block _ (by omega)).trans ((b3.block _ (by omega)).trans x2)
  · exact (b4.block _ (by omega)).trans x3
theorem map_empty {W : World} {b : Nat} (h : W.heap[b]? = some (.map #[] 0)) : MapAt W b (fun i => ((fun _ => none : Nat → Option Int) i).map (Value.int .i64)) :=
  ⟨0, .map [], ⟨#[], 0, h, ⟨by simp, MapKept.stamped_empty 0, by simp⟩, Nat.le_refl _, rfl⟩, fun i _ z => rfl, fun es he p hp => by cases he; cases hp⟩
set_option maxRecDepth 100000 in
set_option maxHeartbeats 25600000 in
theorem within_walk (P : Nat → Bool) (k : Bk) (u : Up) (n : Nat) (e : Nat → Option Ty) (g : Nat → Bool) (nm : Nat → Nat) (st : Nat → Option Ty) (R : Nat → Prop) (most : Int) (l : List Nat) (a : Option Addr) (c B0 : Nat) (w : World)
    (hT : TBk P w k u n e g) (hR : Rep (cmb u e) nm st) (hst : ∀ v t, st v = some t → mayT t = true ∧ ∀ x ∈ varsT t, x < n) (hP : ∀ b, w.heap.size ≤ b → P b = false) (hn : n < 1000000000)
    (hrow : w.ownsRow B0 3 1 (.slice a l.length c) l.length (ints (l.map fun v => ((v : Nat) : Int)))) (hrk : (Value.slice a l.length c).ownBlock ≠ some k.s) (hll : l.length < 4000000000)
    (hl : ∀ x ∈ l, x < n ∧ R (nm x)) (hRc : ∀ p, R p → ∀ c ∈ namesN nm st p, R c) (hoc : sumN n (fun p => (namesN nm st p).length) ≤ 2000000000000000000) (hmo : -9223372036854775808 ≤ most ∧ most ≤ 9223372036854775807) :
    Calls Tryd.prog 60 #[.pointer (some ⟨k.b, 0, none⟩), .int .i64 most, .slice a l.length c] w (WEnd P k u n g nm st R most l w) := by
  have hid := hR.id
  have hle := hR.le
  have hlow := hT.all_low
  have HTR := Lib.hid hT; have HR := Lib.hid hR; have HSTT := Lib.hid hst; have HP := Lib.hid hP; have HN := Lib.hid hn; have HROW := Lib.hid hrow; have HRK := Lib.hid hrk; have HLL := Lib.hid hll; have HLS := Lib.hid hl; have HRC := Lib.hid hRc; have HOC := Lib.hid hoc; have HMO := Lib.hid hmo
  have HID := Lib.hid (And.intro hid hle); have HLOW := Lib.hid hlow
  have hlx : (l.length : Int) < 4000000000 := by omega
  have hmm := @run_makeMap Tryd.prog
  clear hid hle hT hR hst hP hn hrow hrk hll hl hRc hoc hlow
  go_enter Tryd.func60, Tryd.ntmps60
  go_upto_region 4 with (fail)
  have h5 := five w (.cells #[.pointer (some ⟨k.b, 0, none⟩)] 28) (.cells #[.slice none 0 0] 31) (.map #[] 0) (.cells #[.map (some (w.heap.size + 2))] 90) (.cells #[.func (.func 72) #[] #[.pointer (some ⟨(w.heap.size + 3), 0, none⟩), .pointer (some ⟨(w.heap.size + 1), 0, none⟩)]] 105)
  generalize hw5 : ((((w.alloc (.cells #[.pointer (some ⟨k.b, 0, none⟩)] 28)).alloc (.cells #[.slice none 0 0] 31)).alloc (.map #[] 0)).alloc (.cells #[.map (some (w.heap.size + 2))] 90)).alloc (.cells #[.func (.func 72) #[] #[.pointer (some ⟨(w.heap.size + 3), 0, none⟩), .pointer (some ⟨(w.heap.size + 1), 0, none⟩)]] 105) = w5 at *
  clear hw5 hmm
  obtain ⟨hz5, ⟨x0, x1, x2, x3, x4⟩, hb5⟩ := h5
  have hP0 : ∀ b, P b = true → b < w.heap.size := fun b hb => by
    rcases Nat.lt_or_ge b w.heap.size with q | q
    · exact q
    · rw [HP.out b q] at hb; cases hb
  have hI5 : W2V P k u n g nm st (w.heap.size + 5) (w.heap.size + 3) (w.heap.size + 1) (w.heap.size + 2) (w.heap.size + 4) w.heap.size ([], fun _ => none) w5 := ⟨⟨x3, ⟨none, 0, x1, World.ownsRow_nil _ _ _ _⟩, map_empty x2, ⟨by omega, by omega, by omega, by omega, by omega, by omega, by omega⟩⟩, x4, x0, ⟨e, HTR.out.below hb5, HR.out⟩⟩
  have hA5 : W2A P k u (w.heap.size + 5) (w.heap.size + 3) (w.heap.size + 1) (w.heap.size + 2) (w.heap.size + 4) w.heap.size := by
    obtain ⟨⟨q1, q2, q3⟩, q4⟩ := HLOW.out
    exact ⟨⟨by omega, by omega, by omega, by omega, by omega⟩, ⟨by omega, by omega, by omega⟩, ⟨by omega, by omega, by omega⟩, ⟨by omega, by omega, by omega⟩, ⟨by omega, by omega, by omega, by omega⟩, fun x hx => by have := q4 x hx; omega, fun b hb => by have := hP0 b hb; omega⟩
  have HI5 := Lib.hid hI5; have HA5 := Lib.hid hA5; have HK5 := Lib.hid (Kp.of_below (P := fun b => decide (b ≠ k.s)) hb5); have HP0 := Lib.hid hP0; have HS5 := Lib.hid hz5
  clear hI5 hA5 hP0 hz5 x0 x1 x2 x3 x4 hb5
  go_wp2_with (fail)
  go_loopw [20] (fun i wr => ∃ (j : Nat) (met : List Nat) (F : Nat → Option Int), j ≤ l.length ∧ i = .int .i64 j ∧ Hid (W2V P k u n g nm st (w.heap.size + 5) (w.heap.size + 3) (w.heap.size + 1) (w.heap.size + 2) (w.heap.size + 4) w.heap.size (met, F) wr) ∧ Hid (MI nm n R met F (fun _ => 0)) ∧ Hid (∀ x ∈ l.take j, nm x ∈ met) ∧ Hid (Kp (fun b => decide (b ≠ k.s)) w wr)) (fun i _ => l.length - (intOf i).toNat)
  case atStart => exact ⟨0, [], _, Nat.zero_le _, rfl, HI5, Lib.hid (MI.nil nm n R), Lib.hid (fun x hx => by cases hx), HK5⟩
  case round =>
    obtain ⟨j, met, F, hj, rfl, HI, HM, HSD, HK⟩ := hrel
    clear HI5 HK5
    by_cases hlt : j < l.length
    · have hown := own_off HROW.out HK.out HRK.out
      obtain ⟨b, rfl, hb⟩ := own_at hown (by omega)
      obtain ⟨x, hx⟩ : ∃ x, x = l[j] := ⟨_, rfl⟩
      have hcx : wr.cell? ⟨b, j, none⟩ = some (.int .i64 ((x : Nat) : Int)) := row_cell hown (by unfold ints; rw [List.getElem?_map, List.getElem?_map, List.getElem?_eq_getElem hlt, hx]; rfl)
      have hxl : x ∈ l := by rw [hx]; exact List.getElem_mem _
      have hxp := HLS.out x hxl
      have HX := Lib.hid hx; have HXP := Lib.hid hxp; have HJ := Lib.hid hlt
      clear hown hb hx hxl hxp
      go_upto_region 7 with (fail)
      clear hcx
      refine wp_region_held_drew (S := fun V => ∀ b, (b = (w.heap.size + 4) ∨ b = w.heap.size) → V.heap[b]? = wr.heap[b]?) (by kernel_rfl) (fun _ _ => rfl) (fun hHeld => ?_)
      refine wpAnyH_take (i := 0) (v := .func (.func 72) #[] #[.pointer (some ⟨(w.heap.size + 3), 0, none⟩), .pointer (some ⟨(w.heap.size + 1), 0, none⟩)]) rfl (by kernel_rfl) (by kernel_rfl) (by kernel_rfl) (fun _ _ _ h => h) (Or.inl ⟨by rfl, ?_⟩) (by assumption) ?_
      · intro w' hSw
        obtain ⟨d0, -, dl⟩ := c1 ((hSw _ (.inl rfl)).trans HI.out.f)
        first | (go_simp; done) | (go_simp; intro h0; omega) | rfl
      try simp only [Act.put, List.getElem_toArray, List.getElem_cons_succ, List.getElem_cons_zero, List.setIfInBounds_toArray, List.set_cons_zero, List.set_cons_succ]
      refine wpAnyH_take (i := 1) (v := .pointer (some ⟨k.b, 0, none⟩)) rfl (by kernel_rfl) (by kernel_rfl) (by kernel_rfl) (fun _ _ _ h => h) (Or.inl ⟨by rfl, ?_⟩) (by assumption) ?_
      · intro w' hSw
        obtain ⟨d0, -, dl⟩ := c1 ((hSw _ (.inr rfl)).trans HI.out.b)
        first | (go_simp; done) | (go_simp; intro h0; omega) | rfl
      try simp only [Act.put, List.getElem_toArray, List.getElem_cons_succ, List.getElem_cons_zero, List.setIfInBounds_toArray, List.set_cons_zero, List.set_cons_succ]
      refine wpAnyH_take (i := 2) (v := .int .i64 (x : Int)) rfl (by kernel_rfl) (by kernel_rfl) (by kernel_rfl) (fun _ _ _ h => h) (Or.inl ⟨by rfl, ?_⟩) (by assumption) ?_
      · intro w' hSw
        first | (go_simp; done) | (go_simp; intro h0; omega) | rfl
      try simp only [Act.put, List.getElem_toArray, List.getElem_cons_succ, List.getElem_cons_zero, List.setIfInBounds_toArray, List.set_cons_zero, List.set_cons_succ]
      refine wpAnyH_ready (rs := [3]) (by kernel_rfl) (by simp) ?_
      refine AllReadyH.cons rfl (fun K hK => ?_) AllReadyH.nil
      have HK2 := Lib.hid hK
      clear hK
      try rw [if_pos (by rfl)]
      go_simp
      obtain ⟨e1, hT1, hR1⟩ := HI.out.book
      refine (name_walk P k u n e1 g nm st x wr.drew (hT1.below ⟨rfl, rfl, rfl, Nat.le_refl _, fun _ _ => rfl⟩) hR1 HXP.out.1).mono ?_
      rintro en w1 ⟨rfl, e2, hT2, hR2, hk2⟩
      clear hT1 hR1
      replace hk2 : Kp (fun b => decide (b ≠ k.s)) wr w1 := ⟨hk2.os, hk2.tape, hk2.output, hk2.size, hk2.block⟩
      have hm2 := HI.out.meet.kept hk2 HA5.out.lt.2.2.2.1 HA5.out.ks
      have hf2 := (hk2.block _ (lt_of_block HI.out.f) (ne_true HA5.out.n1.2.2)).trans HI.out.f
      have hb2 := (hk2.block _ (lt_of_block HI.out.b) (ne_true HA5.out.n2.2.2)).trans HI.out.b
      have hfew := HM.out.few HN.out
      have hnx : nm x < n := Nat.lt_of_le_of_lt (HID.out.2 x) HXP.out.1
      have hww := within1_walk (w.heap.size + 5) (w.heap.size + 3) (w.heap.size + 1) (w.heap.size + 2) met F (nm x) 0 w1 hm2 (by have := HN.out; omega) hfew.1 hfew.2 (by rw [HM.out.F]; split <;> simp)
      have HWW := Lib.hid hww; have HT2 := Lib.hid hT2; have HR2 := Lib.hid hR2; have HF2 := Lib.hid hf2; have HB2 := Lib.hid hb2; have HK2' := Lib.hid (HK.out.trans hk2); have HNX := Lib.hid hnx
      have HS1 := Lib.hid (show ∀ b, (b = (w.heap.size + 4) ∨ b = w.heap.size) → w1.heap[b]? = wr.heap[b]? from fun b hb => by
        rcases hb with rfl | rfl
        · exact hf2.trans HI.out.f.symm
        · exact hb2.trans HI.out.b.symm)
      clear hk2 hm2 hf2 hb2 hfew hnx hww hT2 hR2
      refine HK2.out _ _ HS1.out (fun hHeld => ?_)
      clear HK2
      try simp only [Act.put, List.getElem_toArray, List.getElem_cons_succ, List.getElem_cons_zero, List.setIfInBounds_toArray, List.set_cons_zero, List.set_cons_succ]
      clear K
      refine wpAnyH_ready (rs := [4]) (by kernel_rfl) (by simp) ?_
      refine AllReadyH.cons rfl (fun K hK => ?_) AllReadyH.nil
      have HK2 := Lib.hid hK
      clear hK
      try rw [if_pos (by rfl)]
      go_simp
      refine HWW.out.mono ?_
      rintro en w2 ⟨rfl, hm2, hk2, hkr2⟩
      have hq : ∀ b, b < w1.heap.size → b < (w.heap.size + 5) → b ≠ (w.heap.size + 1) → b ≠ (w.heap.size + 2) → w2.heap[b]? = w1.heap[b]? := fun b h1 h2 h3 h4 => hk2.block b h1 (decide_eq_true ⟨h2, h3, h4⟩)
      have hf2 := (hq _ (lt_of_block HF2.out) HA5.out.lt.1 HA5.out.n1.1 HA5.out.n1.2.1).trans HF2.out
      have hb2 := (hq _ (lt_of_block HB2.out) HA5.out.lt.2.1 HA5.out.n2.1 HA5.out.n2.2.1).trans HB2.out
      have hT2 := HT2.out.kept hk2 (fun b hb => decide_eq_true (HA5.out.P b hb)) ⟨decide_eq_true ⟨HA5.out.lt.2.2.1, HA5.out.kb.1, HA5.out.kb.2.1⟩, decide_eq_true ⟨HA5.out.lt.2.2.2.1, HA5.out.ks.2.1, HA5.out.ks.2.2⟩, decide_eq_true ⟨HA5.out.lt.2.2.2.2, HA5.out.kb.2.2.1, HA5.out.kb.2.2.2⟩⟩ (fun x hx => ⟨decide_eq_true ⟨(HA5.out.up x hx).1, (HA5.out.up x hx).2.2.1, (HA5.out.up x hx).2.2.2.1⟩, decide_eq_true ⟨(HA5.out.up x hx).2.1, (HA5.out.up x hx).2.2.2.2.1, (HA5.out.up x hx).2.2.2.2.2⟩⟩)
      have hkw : Kp (fun b => decide (b ≠ k.s)) w w2 := ⟨hk2.os.trans HK2'.out.os, hk2.tape.trans HK2'.out.tape, hk2.output.trans HK2'.out.output, Nat.le_trans HK2'.out.size hk2.size, fun b hb hp => (hk2.block b (Nat.lt_of_lt_of_le hb HK2'.out.size) (decide_eq_true ⟨by omega, by omega, by omega⟩)).trans (HK2'.out.block b hb hp)⟩
      have hme := HM.out.meet HID.out.1 (more := 0) HNX.out HXP.out.2
      have HI3 := Lib.hid (show W2V P k u n g nm st (w.heap.size + 5) (w.heap.size + 3) (w.heap.size + 1) (w.heap.size + 2) (w.heap.size + 4) w.heap.size (meetL met F (nm x), meetF F (nm x) 0) w2 from ⟨hm2, hf2, hb2, ⟨e2, hT2, HR2.out⟩⟩)
      have HM3 := Lib.hid (show MI nm n R (meetL met F (nm x)) (meetF F (nm x) 0) (fun _ => 0) from hme.1.congr fun v => by simp)
      have HSD3 := Lib.hid (show ∀ y ∈ l.take (j + 1), nm y ∈ meetL met F (nm x) from fun y hy => by
        rw [List.take_add_one, List.getElem?_eq_getElem HJ.out] at hy
        rcases List.mem_append.1 hy with hy | hy
        · exact hme.2.1.subset (HSD.out y hy)
        · have hyx : y = x := by rw [HX.out]; simpa using hy
          rw [hyx]; exact hme.2.2)
      have HK3 := Lib.hid hkw
      have HS2 := Lib.hid (show ∀ b, (b = (w.heap.size + 4) ∨ b = w.heap.size) → w2.heap[b]? = wr.heap[b]? from fun b hb => by
        rcases hb with rfl | rfl
        · exact hf2.trans HI.out.f.symm
        · exact hb2.trans HI.out.b.symm)
      clear hm2 hk2 hkr2 hq hf2 hb2 hT2 hkw hme
      refine HK2.out _ _ HS2.out (fun hHeld => ?_)
      clear HK2
      try simp only [Act.put, List.getElem_toArray, List.getElem_cons_succ, List.getElem_cons_zero, List.setIfInBounds_toArray, List.set_cons_zero, List.set_cons_succ]
      clear K
      refine wpAnyH_done (by kernel_rfl) ?_ _
      clear hHeld
      go_wp2_with (fail)
      go_roundw
      case rel => exact ⟨j + 1, _, _, by omega, by go_num, HI3, HM3, HSD3, HK3⟩
      case measure => simp [intOf]; omega
    · have hjl : j = l.length := by omega
      have hsd := HSD.out
      rw [hjl, List.take_length] at hsd
      have HSD2 := Lib.hid hsd
      have HM2 := Lib.hid (show MI nm n R met F (occN n nm st (met.take 0)) from HM.out.congr fun v => by rw [List.take_zero, occ_nil])
      clear hjl hsd HSD HM
      go_wp2_with (fail)
      go_loopw [13] (fun s13 wr => ∃ (i : Nat) (met : List Nat) (F : Nat → Option Int), s13 = .int .i64 i ∧ Hid (i ≤ met.length) ∧ Hid (W2V P k u n g nm st (w.heap.size + 5) (w.heap.size + 3) (w.heap.size + 1) (w.heap.size + 2) (w.heap.size + 4) w.heap.size (met, F) wr) ∧ Hid (MI nm n R met F (occN n nm st (met.take i))) ∧ Hid (∀ x ∈ l, nm x ∈ met) ∧ Hid (Kp (fun b => decide (b ≠ k.s)) w wr)) (fun s13 _ => n - (intOf s13).toNat)
      case atStart => exact ⟨0, met, F, rfl, Lib.hid (Nat.zero_le _), HI, HM2, HSD2, HK⟩
      case round =>
        obtain ⟨i, met, F, rfl, HIL, HI, HM, HSD, HK⟩ := hrel
        clear HM2 HSD2
        obtain ⟨am, cm, hxm, hown⟩ := HI.out.meet.xm
        have hfew := HM.out.few HN.out
        have hmn : met.length ≤ n := nodup_few HM.out.nd fun x hx => (HM.out.mem x hx).2.1
        obtain ⟨y0, -, yl⟩ := c1 hxm
        have HXM := Lib.hid hxm; have HOWN := Lib.hid hown; have HMN := Lib.hid hmn
        have hmx : (met.length : Int) < 1000000000 := by omega
        clear hxm hown hfew hmn
        by_cases hil : i < met.length
        · have hilI : (i : Int) < (met.length : Int) := by omega
          by_cases hms : (met.length : Int) ≤ most
          · have hg := own_at HOWN.out (show 0 < met.length by omega)
            obtain ⟨g0, rfl, hg0⟩ := hg
            obtain ⟨p, hp⟩ : ∃ p, p = met[i] := ⟨_, rfl⟩
            have hcp : wr.cell? ⟨g0, i, none⟩ = some (.int .i64 ((p : Nat) : Int)) := row_cell HOWN.out (by
              show (ints (met.map fun v => ((v : Nat) : Int)))[i]? = _
              unfold ints; rw [List.getElem?_map, List.getElem?_map, List.getElem?_eq_getElem hil, hp]; rfl)
            have hpm : p ∈ met := by rw [hp]; exact List.getElem_mem _
            have HP1 := Lib.hid hp; have HPM := Lib.hid hpm; have HCP := Lib.hid hcp; have HIL2 := Lib.hid hil
            clear hp hpm hg0
            go_upto_region 12 with (fail)
            refine wp_region_held_drew (S := fun V => V.heap[w.heap.size]? = wr.heap[w.heap.size]?) (by kernel_rfl) rfl (fun hHeld => ?_)
            refine wpAnyH_take (i := 0) (v := .func (.func 73) #[] #[.pointer (some ⟨(w.heap.size + 4), 0, none⟩), .pointer (some ⟨w.heap.size, 0, none⟩)]) rfl (by kernel_rfl) (by kernel_rfl) (by kernel_rfl) (fun _ _ _ h => h) (Or.inl ⟨by rfl, ?_⟩) (by assumption) ?_
            · intro w' hSw
              first | (go_simp; done) | (go_simp; intro h0; omega) | rfl
            try simp only [Act.put, List.getElem_toArray, List.getElem_cons_succ, List.getElem_cons_zero, List.setIfInBounds_toArray, List.set_cons_zero, List.set_cons_succ]
            refine wpAnyH_take (i := 1) (v := .pointer (some ⟨k.b, 0, none⟩)) rfl (by kernel_rfl) (by kernel_rfl) (by kernel_rfl) (fun _ _ _ h => h) (Or.inl ⟨by rfl, ?_⟩) (by assumption) ?_
            · intro w' hSw
              obtain ⟨d0, -, dl⟩ := c1 (hSw.trans HI.out.b)
              first | (go_simp; done) | (go_simp; intro h0; omega) | rfl
            try simp only [Act.put, List.getElem_toArray, List.getElem_cons_succ, List.getElem_cons_zero, List.setIfInBounds_toArray, List.set_cons_zero, List.set_cons_succ]
            refine wpAnyH_take (i := 3) (v := .int .i64 (i : Int)) rfl (by kernel_rfl) (by kernel_rfl) (by kernel_rfl) (fun _ _ _ h => h) (Or.inl ⟨by rfl, ?_⟩) (by assumption) ?_
            · intro w' hSw
              first | (go_simp; done) | (go_simp; intro h0; omega) | rfl
            try simp only [Act.put, List.getElem_toArray, List.getElem_cons_succ, List.getElem_cons_zero, List.setIfInBounds_toArray, List.set_cons_zero, List.set_cons_succ]
            refine wpAnyH_ready (rs := [2]) (by kernel_rfl) (by simp) ?_
            refine AllReadyH.cons rfl (fun K hK => ?_) AllReadyH.nil
            have HK2 := Lib.hid hK
            clear hK
            try rw [if_pos (by rfl)]
            go_simp
            refine HK2.out _ _ rfl (fun hHeld => ?_)
            clear HK2
            try simp only [Act.put, List.getElem_toArray, List.getElem_cons_succ, List.getElem_cons_zero, List.setIfInBounds_toArray, List.set_cons_zero, List.set_cons_succ]
            clear K
            refine wpAnyH_take (i := 4) (v := .pointer (some ⟨g0, i, none⟩)) rfl (by kernel_rfl) (by kernel_rfl) (by kernel_rfl) (fun _ _ _ h => h) (Or.inl ⟨by rfl, ?_⟩) (by assumption) ?_
            · intro w' hSw
              first | (go_simp; done) | (go_simp; intro h0; omega) | rfl
            try simp only [Act.put, List.getElem_toArray, List.getElem_cons_succ, List.getElem_cons_zero, List.setIfInBounds_toArray, List.set_cons_zero, List.set_cons_succ]
            refine wpAnyH_ready (rs := [5]) (by kernel_rfl) (by simp) ?_
            refine AllReadyH.cons rfl (fun K hK => ?_) AllReadyH.nil
            have HK2 := Lib.hid hK
            clear hK
            try rw [if_pos (by rfl)]
            go_simp
            refine HK2.out _ _ rfl (fun hHeld => ?_)
            clear HK2
            try simp only [Act.put, List.getElem_toArray, List.getElem_cons_succ, List.getElem_cons_zero, List.setIfInBounds_toArray, List.set_cons_zero, List.set_cons_succ]
            clear K
            refine wpAnyH_ready (rs := [6]) (by kernel_rfl) (by simp) ?_
            refine AllReadyH.cons rfl (fun K hK => ?_) AllReadyH.nil
            have HK2 := Lib.hid hK
            clear hK
            try rw [if_pos (by rfl)]
            go_simp
            obtain ⟨e1, hT1, hR1⟩ := HI.out.book
            have hpn := HM.out.mem p HPM.out
            refine (stand_walk P wr.drew k u n e1 g p (hT1.below ⟨rfl, rfl, rfl, Nat.le_refl _, fun _ _ => rfl⟩) (keyOk_of (by have := HN.out; omega))).mono ?_
            rintro en w1 ⟨h, q, lk, ck, rfl, hty, hb1⟩
            rw [hR1.at hpn.1] at hty
            replace hb1 : Below wr.heap.size wr w1 := ⟨hb1.os, hb1.tape, hb1.output, hb1.size, hb1.block⟩
            have HI1 := Lib.hid (HI.out.below hb1)
            have HTY := Lib.hid (hty.reads' (veil_to (P' := P) (W' := w1) fun b hb hp => ⟨hp, hb1.block b hb⟩))
            have HNB := Lib.hid ((hb1.block _ (lt_of_block HI.out.b)))
            have HK1 := Lib.hid (HK.out.trans (Kp.of_below hb1)); have HPN := Lib.hid hpn
            clear hT1 hR1 hty hb1 hpn
            refine HK2.out _ _ HNB.out (fun hHeld => ?_)
            clear HK2
            try simp only [Act.put, List.getElem_toArray, List.getElem_cons_succ, List.getElem_cons_zero, List.setIfInBounds_toArray, List.set_cons_zero, List.set_cons_succ]
            clear K
            refine wpAnyH_ready (rs := [7]) (by kernel_rfl) (by simp) ?_
            refine AllReadyH.cons rfl (fun K hK => ?_) AllReadyH.nil
            have HK2 := Lib.hid hK
            clear hK
            try rw [if_pos (by rfl)]
            go_simp
            refine HK2.out _ _ (((al_new (W := w1) _).block _ (lt_of_block HI1.out.b)).trans HNB.out) (fun hHeld => ?_)
            clear HK2
            try simp only [Act.put, List.getElem_toArray, List.getElem_cons_succ, List.getElem_cons_zero, List.setIfInBounds_toArray, List.set_cons_zero, List.set_cons_succ]
            clear K
            refine wpAnyH_ready (rs := [8]) (by kernel_rfl) (by simp) ?_
            refine AllReadyH.cons rfl (fun K hK => ?_) AllReadyH.nil
            have HK2 := Lib.hid hK
            clear hK
            try rw [if_pos (by rfl)]
            go_simp
            have hst0 : ∀ v t, st v = some t → mayT t = true := fun v t hv => (HSTT.out v t hv).1
            have hev := ev_st hst0 p
            have hxs : ∀ x ∈ varsT (tyO (st p)), x < n ∧ R (nm x) := fun x hx => by
              refine ⟨?_, HRC.out p HPN.out.2.2 (nm x) (List.mem_map.2 ⟨x, hx, rfl⟩)⟩
              cases hs : st p with
              | none => rw [hs, show tyO none = zTy from rfl, varsZ] at hx; cases hx
              | some t => rw [hs] at hx; exact (HSTT.out p t hs).2 x hx
            have hbd : ∀ v, occN n nm st (met.take i) v + (varsT (tyO (st p))).length ≤ 4611686018427387900 := fun v => by
              have h1 := occ_few (n := n) (nm := nm) (st := st) (L := met.take i) (c := v)
              have h2 : (namesN nm st p).length ≤ sumN n (fun p => (namesN nm st p).length) := sumN_at (F := fun p => (namesN nm st p).length) HPN.out.2.1
              have h3 := HOC.out
              unfold namesN at h2
              rw [List.length_map] at h2
              have e : (sumN n fun p => (namesN nm st p).length) = (sumN n fun p => (List.map nm (varsT (tyO (st p)))).length) := rfl
              omega
            have heok := eok_meets HID.out.1 HID.out.2 HN.out (varsT (tyO (st p))) met F _ HM.out hxs hbd
            rw [← hev] at heok
            have hmeet := MI.meets HID.out.1 1 (varsT (tyO (st p))) met F _ HM.out (fun x hx => ⟨Nat.lt_of_le_of_lt (HID.out.2 x) (hxs x hx).1, (hxs x hx).2⟩)
            refine (w2_each HI1.out HA5.out HTY.out heok).mono ?_
            rintro en w2 ⟨rfl, hv2, hk2⟩
            rw [hev, fold_nat (fun s v => meetS nm 1 s v)] at hv2
            obtain ⟨met', F', hmf⟩ : ∃ met' F', (varsT (tyO (st p))).foldl (meetS nm 1) (met, F) = (met', F') := ⟨_, _, rfl⟩
            have hv2' : W2V P k u n g nm st (w.heap.size + 5) (w.heap.size + 3) (w.heap.size + 1) (w.heap.size + 2) (w.heap.size + 4) w.heap.size (met', F') w2 := by rw [← hmf]; exact hv2
            have hmeet1 : MI nm n R met' F' (fun v => occN n nm st (met.take i) v + 1 * ((varsT (tyO (st p))).map nm).count v) ∧ met <+: met' ∧ ∀ x ∈ varsT (tyO (st p)), nm x ∈ met' := by have := hmeet; rw [show ((varsT (tyO (st p))).foldl (meetS nm ((1 : Nat) : Int)) (met, F)) = (met', F') from hmf] at this; exact this
            have hil' : i < met'.length := Nat.lt_of_lt_of_le HIL2.out hmeet1.2.1.length_le
            have htk : met'.take (i + 1) = met.take i ++ [p] := by
              obtain ⟨tl, htl⟩ := hmeet1.2.1
              rw [← htl, List.take_append_of_le_length (by have := HIL2.out; omega), List.take_add_one, List.getElem?_eq_getElem HIL2.out, ← HP1.out]; rfl
            have hpt : p ∉ met.take i := fun hq => by
              have hd := HM.out.nd
              rw [← List.take_append_drop i met, List.nodup_append] at hd
              have hdp : p ∈ met.drop i := by rw [List.mem_iff_getElem?]; exact ⟨0, by rw [List.getElem?_drop, List.getElem?_eq_getElem (by have := HIL2.out; omega), HP1.out]; rfl⟩
              exact hd.2.2 p hq p hdp rfl
            have HI3 := Lib.hid hv2'; have HIL3 := Lib.hid (show i + 1 ≤ met'.length from hil')
            have HM3 := Lib.hid (show MI nm n R met' F' (occN n nm st (met'.take (i + 1))) from hmeet1.1.congr fun v => by rw [htk, occ_snoc HPN.out.2.1 hpt, Nat.one_mul]; rfl)
            have HSD3 := Lib.hid (show ∀ x ∈ l, nm x ∈ met' from fun x hx => hmeet1.2.1.subset (HSD.out x hx))
            have hqn : ∀ b, b < w.heap.size → b ≠ k.s → qCan (w.heap.size + 1) (w.heap.size + 2) k.s w1 b = true := fun b hb hs => qCan_iff.2 ⟨⟨by omega, hs⟩, by omega, fun e => by have := (HI1.out.rowlt b e).2; omega⟩
            have HK3 := Lib.hid (show Kp (fun b => decide (b ≠ k.s)) w w2 from ⟨hk2.os.trans HK1.out.os, hk2.tape.trans HK1.out.tape, hk2.output.trans HK1.out.output, Nat.le_trans HK1.out.size hk2.size, fun b hb hp => (hk2.block b (Nat.lt_of_lt_of_le hb HK1.out.size) (hqn b hb (of_decide_eq_true hp))).trans (HK1.out.block b hb hp)⟩)
            have hq0 : qCan (w.heap.size + 1) (w.heap.size + 2) k.s w1 w.heap.size = true := qCan_iff.2 ⟨⟨by omega, by have := HLOW.out.1; omega⟩, by omega, fun e => by have := (HI1.out.rowlt _ e).2; omega⟩
            have HNB2 := Lib.hid ((hk2.block _ (lt_of_block HI1.out.b) hq0).trans HNB.out)
            clear hst0 hev hxs hbd heok hmeet hv2 hk2 hmf hv2' hmeet1 hil' htk hpt hqn hq0
            refine HK2.out _ _ HNB2.out (fun hHeld => ?_)
            clear HK2
            try simp only [Act.put, List.getElem_toArray, List.getElem_cons_succ, List.getElem_cons_zero, List.setIfInBounds_toArray, List.set_cons_zero, List.set_cons_succ]
            clear K
            refine wpAnyH_done (by kernel_rfl) ?_ _
            clear hHeld y0 yl hcp
            have hm3 := Nat.le_trans HIL3.out (nodup_few HM3.out.nd fun x hx => (HM3.out.mem x hx).2.1)
            have hnn := HN.out
            go_wp2_with (fail)
            go_roundw
            case rel => exact ⟨i + 1, met', F', by go_num, HIL3, HI3, HM3, HSD3, HK3⟩
            case measure => simp [intOf]; omega
          · have HFIN := Lib.hid (show WEnd P k u n g nm st R most l w (.returned (.tuple #[.slice none 0 0, .bool false])) wr from ⟨HI.out.book, HK.out, .inr ⟨_, rfl, .inl ⟨met, HM.out.nd, HM.out.mem, by omega⟩⟩⟩)
            have hgt : most < (met.length : Int) := by omega
            go_wp2_with (fail)
            exact bodyPost_ret (by simp [results, Tryd.results60, go_sem]) rfl HFIN.out
        · have hie : i = met.length := by have := HIL.out; omega
          have hmi : MI nm n R met F (occN n nm st met) := by have := HM.out; rw [hie, List.take_length] at this; exact this
          have HMI := Lib.hid hmi
          have hilI : ¬ (i : Int) < (met.length : Int) := by omega
          clear hmi HM hie
          by_cases hms : (met.length : Int) ≤ most
          · have hng : ¬ most < (met.length : Int) := by omega
            have hcw := clone_walk (w.heap.size + 5) met.length cm am (met.map fun v => ((v : Nat) : Int)) wr HOWN.out (by omega)
            have HCW := Lib.hid hcw; have HMS := Lib.hid hms
            clear hcw hms hil
            go_wp2_with (fail)
            refine HCW.out.mono ?_
            rintro en w1 ⟨a1, c1', rfl, hown1, hb1⟩
            have hI1 := HI.out.below hb1
            have hg1 : ∀ g', (Value.slice a1 met.length c1').ownBlock = some g' → wr.heap.size ≤ g' ∧ g' < w1.heap.size := fun g' e => ⟨(own_row_lt hown1 e).2, (own_row_lt hown1 e).1⟩
            have hapw := HI.out.meet.ap
            have hde := deleteW (.pointer (some ⟨(w.heap.size + 3), 0, none⟩)) (fun v => decide (0 < (F v.toNat).getD 0)) (fun W => W.heap[(w.heap.size + 3)]? = some (.cells #[.map (some (w.heap.size + 2))] 90 (0, 0)) ∧ MapAt W (w.heap.size + 2) (fun i => (F i).map (Value.int .i64))) (met.map fun v => ((v : Nat) : Int)) a1 met.length c1' wr.heap.size
              (fun v W hv hW => by
                obtain ⟨x, hx, rfl⟩ := List.mem_map.1 hv
                refine (within3_walk (w.heap.size + 3) (w.heap.size + 2) (fun i => (F i).map (Value.int .i64)) ((F x).getD 0) x W hW.1 hW.2 (keyOk_of (by have := (HMI.out.mem x hx).2.1; have := HN.out; omega)) (by cases F x <;> rfl)).mono ?_
                rintro en W' ⟨rfl, rfl⟩
                exact ⟨rfl, Below.refl _ _⟩)
              (fun W W' hW hk => ⟨(hk.block _ (lt_of_block hW.1) (decide_eq_true fun e => by have := (hg1 _ e).1; omega)).trans hW.1, hW.2.of_block (hk.block _ hW.2.lt (decide_eq_true fun e => by have := (hg1 _ e).1; omega))⟩) w1 (by rw [List.length_map]) (by omega) hown1 ⟨hI1.meet.xp, hI1.meet.map⟩
            obtain ⟨ord0, ho0⟩ : ∃ ord0, ord0 = met.filter fun v => !decide (0 < (F v).getD 0) := ⟨_, rfl⟩
            have hfil : (met.map fun v => ((v : Nat) : Int)).filter (fun v => !(decide (0 < (F v.toNat).getD 0))) = ord0.map fun v => ((v : Nat) : Int) := by rw [List.filter_map, ho0]; rfl
            rw [hfil, List.length_map] at hde
            have hoi := OI.start HMI.out
            rw [← ho0] at hoi
            have HDE := Lib.hid hde; have HI1 := Lib.hid hI1; have HG1 := Lib.hid hg1; have HOI0 := Lib.hid hoi; have HK1 := Lib.hid (HK.out.trans (Kp.of_below hb1)); have HAPW := Lib.hid hapw; have HWW := Lib.hid hb1.size
            have hxm1 := (hb1.block _ (lt_of_block HXM.out)).trans HXM.out
            have hN0 := hI1.b
            obtain ⟨z0, -, zl⟩ := c1 hI1.meet.xp
            have HXM1 := Lib.hid hxm1
            clear hde hI1 hg1 hoi hb1 hown1 hapw ho0 hfil HCW y0 yl hxm1 hN0
            go_wp2_with (fail)
            refine HDE.out.mono ?_
            rintro en w2 ⟨rfl, hown2, hk2⟩
            have hq2 : ∀ b, b < wr.heap.size → b < w1.heap.size → w2.heap[b]? = w1.heap[b]? := fun b h1 h2 => hk2.block b h2 (decide_eq_true fun e => by have := (HG1.out b e).1; omega)
            have hsz2 : w1.heap.size ≤ w2.heap.size := hk2.size
            have hb3 := al_new (W := w2) (.cells #[.slice a1 ord0.length c1'] 31)
            have hn3 := heap_alloc_new w2 (.cells #[.slice a1 ord0.length c1'] 31)
            have hz3 : (w2.alloc (.cells #[.slice a1 ord0.length c1'] 31)).heap.size = w2.heap.size + 1 := by simp
            go_upto_region 16 with (fail)
            generalize hw3 : w2.alloc (.cells #[.slice a1 ord0.length c1'] 31) = w3 at *
            clear hw3
            obtain ⟨NX, hNX⟩ : ∃ NX, NX = w2.heap.size := ⟨_, rfl⟩
            have hbig : wr.heap.size ≤ NX ∧ w.heap.size + 5 ≤ wr.heap.size := by have := HWW.out; have := HAPW.out; omega
            have hq3 : ∀ b, b < wr.heap.size → w3.heap[b]? = w1.heap[b]? := fun b h1 => (hb3.block b (by omega)).trans (hq2 b h1 (by have := HWW.out; omega))
            obtain ⟨e1, hT1, hR1⟩ := HI1.out.book
            have hlo := hT1.all_low
            have hlow := HLOW.out
            have hap4 : ∀ g', (Value.slice a1 ord0.length c1').ownBlock = some g' → Ap4 P k u (w.heap.size + 3) NX (w.heap.size + 2) w.heap.size g' := fun g' e => by
              have h1 := HG1.out g' ((own_len _ _ _ _ _).trans e)
              obtain ⟨⟨q1, q2, q3⟩, q4⟩ := hlow
              exact ⟨by omega, by omega, by omega, by omega, by omega, by omega, by omega, HP.out g' (by omega), fun x hx => by have := q4 x hx; omega⟩
            have hT3 : TBk P w3 k u n e1 g := hT1.kept (Q := fun b => decide (b < wr.heap.size)) ⟨hb3.os.trans hk2.os, hb3.tape.trans hk2.tape, hb3.output.trans hk2.output, by omega, fun b hb hp => hq3 b (of_decide_eq_true hp)⟩ (fun b hb => decide_eq_true (by have := HP0.out b hb; omega)) ⟨decide_eq_true (by have := hlow.1; omega), decide_eq_true (by have := hlow.1; omega), decide_eq_true (by have := hlow.1; omega)⟩ (fun x hx => ⟨decide_eq_true (by have := hlow.2 x hx; omega), decide_eq_true (by have := hlow.2 x hx; omega)⟩)
            rw [← hNX] at hn3
            have HV3 := Lib.hid (show W4V P k u n g nm st (w.heap.size + 3) NX (w.heap.size + 2) w.heap.size (ord0, F) w3 from ⟨(hq3 _ (by omega)).trans HI1.out.meet.xp, ⟨a1, c1', hn3, own_rebase (own_all hown2 hb3) (fun _ _ => Nat.zero_le _), hap4⟩, HI1.out.meet.map.of_block (hq3 _ (by omega)), (hq3 _ (by omega)).trans HI1.out.b, ⟨e1, hT3, hR1⟩⟩)
            have HA4 := Lib.hid (show W4A P k u w.heap.size (w.heap.size + 3) NX (w.heap.size + 2) w.heap.size from by
              obtain ⟨⟨q1, q2, q3⟩, q4⟩ := hlow
              exact ⟨⟨by omega, by omega, by omega⟩, ⟨by omega, by omega, by omega⟩, ⟨by omega, by omega, by omega⟩, ⟨by omega, by omega, by omega, by omega⟩, fun x hx => by have := q4 x hx; omega, HP.out, fun b hb => by have := HP0.out b hb; omega⟩)
            have HX3 := Lib.hid (show w3.heap[(w.heap.size + 1)]? = some (.cells #[.slice am met.length cm] 31 (0, 0)) ∧ (∀ b, b < w.heap.size ∨ b = (w.heap.size + 1) → rowOf w3 NX ≠ some b) ∧ NX < w3.heap.size from ⟨(hq3 _ (by omega)).trans HXM1.out, fun b hb => by rw [rowOf_eq hn3]; exact fun e => by have := HG1.out b ((own_len _ _ _ _ _).trans e); omega, by omega⟩)
            have HK3 := Lib.hid (show Kp (fun b => decide (b ≠ k.s)) w w3 from ⟨hb3.os.trans (hk2.os.trans HK1.out.os), hb3.tape.trans (hk2.tape.trans HK1.out.tape), hb3.output.trans (hk2.output.trans HK1.out.output), by omega, fun b hb hp => (hq3 b (by omega)).trans (HK1.out.block b hb hp)⟩)
            have HBG := Lib.hid (show w.heap.size + 5 ≤ NX by omega)
            have HCL := Lib.hid (show ∀ p ∈ met, ∀ c ∈ namesN nm st p, c ∈ met from fun p hp c hc => HMI.out.sub c (occ_pos (HMI.out.mem p hp).2.1 hp hc))
            have HMN2 := Lib.hid (show ∀ v ∈ met, v < n from fun v hv => (HMI.out.mem v hv).2.1)
            rw [← hNX]
            clear hq2 hsz2 hb3 hn3 hz3 hbig hq3 hT1 hR1 hlo hlow hap4 hT3 hown2 hk2 hNX z0 zl HDE
            go_wp2_with (fail)
            go_loopw [15] (fun s15 wr => ∃ (i : Nat) (ord : List Nat) (F3 : Nat → Option Int), s15 = .int .i64 i ∧ Hid (i ≤ ord.length) ∧ Hid (W4V P k u n g nm st (w.heap.size + 3) NX (w.heap.size + 2) w.heap.size (ord, F3) wr) ∧ Hid (OI n nm st met ord F3 i []) ∧ Hid (wr.heap[(w.heap.size + 1)]? = some (.cells #[.slice am met.length cm] 31 (0, 0)) ∧ (∀ b, b < w.heap.size ∨ b = (w.heap.size + 1) → rowOf wr NX ≠ some b) ∧ NX < wr.heap.size) ∧ Hid (Kp (fun b => decide (b ≠ k.s)) w wr)) (fun s15 _ => n - (intOf s15).toNat)
            case atStart => exact ⟨0, ord0, F, rfl, Lib.hid (Nat.zero_le _), HV3, HOI0, HX3, HK3⟩
            case round =>
              obtain ⟨i, ord, F3, rfl, HIL, HV, HOI, HX, HK⟩ := hrel
              clear HV3 HOI0 HX3 HK3
              obtain ⟨ao, co, hxo, hown, hapo⟩ := HV.out.xm
              have hon : ord.length ≤ n := nodup_few HOI.out.nd fun x hx => HMN2.out x (HOI.out.sub x hx)
              obtain ⟨y0, -, yl⟩ := c1 hxo
              have hox : (ord.length : Int) < 1000000000 := by have := HN.out; omega
              have HXO := Lib.hid hxo; have HOWN2 := Lib.hid hown; have HAPO := Lib.hid hapo; have HON := Lib.hid hon
              clear hxo hown hapo hon
              by_cases hil : i < ord.length
              · have hilI : (i : Int) < (ord.length : Int) := by omega
                have hg := own_at HOWN2.out (show 0 < ord.length by omega)
                obtain ⟨g0, rfl, hg0⟩ := hg
                obtain ⟨p, hp⟩ : ∃ p, p = ord[i] := ⟨_, rfl⟩
                have hcp : wr.cell? ⟨g0, i, none⟩ = some (.int .i64 ((p : Nat) : Int)) := row_cell HOWN2.out (by
                  show (ints (ord.map fun v => ((v : Nat) : Int)))[i]? = _
                  unfold ints; rw [List.getElem?_map, List.getElem?_map, List.getElem?_eq_getElem hil, hp]; rfl)
                have hpo : ord[i]? = some p := by rw [List.getElem?_eq_getElem hil, hp]
                have hpm : p ∈ met := HOI.out.sub p (List.mem_iff_getElem?.2 ⟨i, hpo⟩)
                have HPO := Lib.hid hpo; have HPM := Lib.hid hpm; have HIL2 := Lib.hid hil
                clear hp hpm hg0 hpo hil
                go_upto_region 19 with (fail)
                refine wp_region_held_drew (S := fun V => V.heap[w.heap.size]? = wr.heap[w.heap.size]?) (by kernel_rfl) rfl (fun hHeld => ?_)
                refine wpAnyH_take (i := 0) (v := .func (.func 75) #[] #[.pointer (some ⟨w.heap.size, 0, none⟩), .pointer (some ⟨(w.heap.size + 3), 0, none⟩), .pointer (some ⟨NX, 0, none⟩)]) rfl (by kernel_rfl) (by kernel_rfl) (by kernel_rfl) (fun _ _ _ h => h) (Or.inl ⟨by rfl, ?_⟩) (by assumption) ?_
                · intro w' hSw
                  first | (go_simp; done) | (go_simp; intro h0; omega) | rfl
                try simp only [Act.put, List.getElem_toArray, List.getElem_cons_succ, List.getElem_cons_zero, List.setIfInBounds_toArray, List.set_cons_zero, List.set_cons_succ]
                refine wpAnyH_take (i := 1) (v := .pointer (some ⟨k.b, 0, none⟩)) rfl (by kernel_rfl) (by kernel_rfl) (by kernel_rfl) (fun _ _ _ h => h) (Or.inl ⟨by rfl, ?_⟩) (by assumption) ?_
                · intro w' hSw
                  obtain ⟨d0, -, dl⟩ := c1 (hSw.trans HV.out.b)
                  first | (go_simp; done) | (go_simp; intro h0; omega) | rfl
                try simp only [Act.put, List.getElem_toArray, List.getElem_cons_succ, List.getElem_cons_zero, List.setIfInBounds_toArray, List.set_cons_zero, List.set_cons_succ]
                refine wpAnyH_take (i := 3) (v := .int .i64 (i : Int)) rfl (by kernel_rfl) (by kernel_rfl) (by kernel_rfl) (fun _ _ _ h => h) (Or.inl ⟨by rfl, ?_⟩) (by assumption) ?_
                · intro w' hSw
                  first | (go_simp; done) | (go_simp; intro h0; omega) | rfl
                try simp only [Act.put, List.getElem_toArray, List.getElem_cons_succ, List.getElem_cons_zero, List.setIfInBounds_toArray, List.set_cons_zero, List.set_cons_succ]
                refine wpAnyH_ready (rs := [2]) (by kernel_rfl) (by simp) ?_
                refine AllReadyH.cons rfl (fun K hK => ?_) AllReadyH.nil
                have HK2 := Lib.hid hK
                clear hK
                try rw [if_pos (by rfl)]
                go_simp
                refine HK2.out _ _ rfl (fun hHeld => ?_)
                clear HK2
                try simp only [Act.put, List.getElem_toArray, List.getElem_cons_succ, List.getElem_cons_zero, List.setIfInBounds_toArray, List.set_cons_zero, List.set_cons_succ]
                clear K
                refine wpAnyH_take (i := 4) (v := .pointer (some ⟨g0, i, none⟩)) rfl (by kernel_rfl) (by kernel_rfl) (by kernel_rfl) (fun _ _ _ h => h) (Or.inl ⟨by rfl, ?_⟩) (by assumption) ?_
                · intro w' hSw
                  first | (go_simp; done) | (go_simp; intro h0; omega) | rfl
                try simp only [Act.put, List.getElem_toArray, List.getElem_cons_succ, List.getElem_cons_zero, List.setIfInBounds_toArray, List.set_cons_zero, List.set_cons_succ]
                refine wpAnyH_ready (rs := [5]) (by kernel_rfl) (by simp) ?_
                refine AllReadyH.cons rfl (fun K hK => ?_) AllReadyH.nil
                have HK2 := Lib.hid hK
                clear hK
                try rw [if_pos (by rfl)]
                go_simp
                refine HK2.out _ _ rfl (fun hHeld => ?_)
                clear HK2
                try simp only [Act.put, List.getElem_toArray, List.getElem_cons_succ, List.getElem_cons_zero, List.setIfInBounds_toArray, List.set_cons_zero, List.set_cons_succ]
                clear K
                refine wpAnyH_ready (rs := [6]) (by kernel_rfl) (by simp) ?_
                refine AllReadyH.cons rfl (fun K hK => ?_) AllReadyH.nil
                have HK2 := Lib.hid hK
                clear hK
                try rw [if_pos (by rfl)]
                go_simp
                obtain ⟨e1, hT1, hR1⟩ := HV.out.book
                have hpn := HMI.out.mem p HPM.out
                refine (stand_walk P wr.drew k u n e1 g p (hT1.below ⟨rfl, rfl, rfl, Nat.le_refl _, fun _ _ => rfl⟩) (keyOk_of (by have := HN.out; omega))).mono ?_
                rintro en w4 ⟨h, q, lk, ck, rfl, hty, hb4⟩
                rw [hR1.at hpn.1] at hty
                replace hb4 : Below wr.heap.size wr w4 := ⟨hb4.os, hb4.tape, hb4.output, hb4.size, hb4.block⟩
                have HV4 := Lib.hid (HV.out.below hb4)
                have HTY := Lib.hid (hty.reads' (veil_to (P' := P) (W' := w4) fun b hb hp => ⟨hp, hb4.block b hb⟩))
                have HNB := Lib.hid ((hb4.block _ (lt_of_block HV.out.b)))
                have HX4 := Lib.hid (show w4.heap[(w.heap.size + 1)]? = some (.cells #[.slice am met.length cm] 31 (0, 0)) ∧ (∀ b, b < w.heap.size ∨ b = (w.heap.size + 1) → rowOf w4 NX ≠ some b) ∧ NX < w4.heap.size from ⟨(hb4.block _ (lt_of_block HX.out.1)).trans HX.out.1, fun b hb => by rw [rowOf_below hb4 HX.out.2.2]; exact HX.out.2.1 b hb, Nat.lt_of_lt_of_le HX.out.2.2 hb4.size⟩)
                have HK4 := Lib.hid (HK.out.trans (Kp.of_below hb4)); have HPN := Lib.hid hpn
                clear hT1 hR1 hty hb4 hpn
                refine HK2.out _ _ HNB.out (fun hHeld => ?_)
                clear HK2
                try simp only [Act.put, List.getElem_toArray, List.getElem_cons_succ, List.getElem_cons_zero, List.setIfInBounds_toArray, List.set_cons_zero, List.set_cons_succ]
                clear K
                refine wpAnyH_ready (rs := [7]) (by kernel_rfl) (by simp) ?_
                refine AllReadyH.cons rfl (fun K hK => ?_) AllReadyH.nil
                have HK2 := Lib.hid hK
                clear hK
                try rw [if_pos (by rfl)]
                go_simp
                refine HK2.out _ _ (((al_new (W := w4) _).block _ (lt_of_block HV4.out.b)).trans HNB.out) (fun hHeld => ?_)
                clear HK2
                try simp only [Act.put, List.getElem_toArray, List.getElem_cons_succ, List.getElem_cons_zero, List.setIfInBounds_toArray, List.set_cons_zero, List.set_cons_succ]
                clear K
                refine wpAnyH_ready (rs := [8]) (by kernel_rfl) (by simp) ?_
                refine AllReadyH.cons rfl (fun K hK => ?_) AllReadyH.nil
                have HK2 := Lib.hid hK
                clear hK
                try rw [if_pos (by rfl)]
                go_simp
                have hst0 : ∀ v t, st v = some t → mayT t = true := fun v t hv => (HSTT.out v t hv).1
                have hev := ev_st hst0 p
                have hxs : ∀ x ∈ varsT (tyO (st p)), x < n := fun x hx => by
                  cases hs : st p with
                  | none => rw [hs, show tyO none = zTy from rfl, varsZ] at hx; cases hx
                  | some t => rw [hs] at hx; exact (HSTT.out p t hs).2 x hx
                have hbd : ∀ v, occN n nm st met v ≤ 4611686018427387900 := fun v => by
                  have h1 := occ_few (n := n) (nm := nm) (st := st) (L := met) (c := v)
                  have h3 := HOC.out
                  omega
                obtain ⟨heok, ord', F', hfd, hoi', hpre⟩ := eok_less HN.out HMN2.out HCL.out hbd (p := p) (i := i) (varsT (tyO (st p))) [] ord F3 HOI.out HPO.out rfl hxs
                rw [← hev] at heok
                refine (w4_each HV4.out HA4.out HK4.out.size HTY.out heok).mono ?_
                rintro en w5 ⟨rfl, hv5, hk5, hr5⟩
                rw [hev, fold_nat (fun s v => lessS nm s v), hfd] at hv5
                have hqn : ∀ b, b < w.heap.size ∨ b = (w.heap.size + 1) → b ≠ k.s → qCan NX (w.heap.size + 2) k.s w4 b = true := fun b hb hs => qCan_iff.2 ⟨⟨by omega, hs⟩, by have := HBG.out; omega, HX4.out.2.1 b hb⟩
                have hil' : i < ord'.length := Nat.lt_of_lt_of_le HIL2.out hpre.length_le
                have hpo' : ord'[i]? = some p := by
                  obtain ⟨tl, htl⟩ := hpre
                  rw [← htl, List.getElem?_append_left HIL2.out]; exact HPO.out
                have hlo5 := HLOW.out.1
                have HV5 := Lib.hid hv5; have HIL5 := Lib.hid (show i + 1 ≤ ord'.length from hil'); have HOI5 := Lib.hid (hoi'.next HMN2.out hpo')
                have hw4 := HK4.out.size
                have hb5 := HBG.out
                have hx4 := HX4.out.2.2
                have HX5 := Lib.hid (show w5.heap[(w.heap.size + 1)]? = some (.cells #[.slice am met.length cm] 31 (0, 0)) ∧ (∀ b, b < w.heap.size ∨ b = (w.heap.size + 1) → rowOf w5 NX ≠ some b) ∧ NX < w5.heap.size from ⟨(hk5.block _ (by omega) (hqn _ (.inr rfl) (by omega))).trans HX4.out.1, fun b hb => by
                  by_cases hs : b = k.s
                  · subst hs
                    exact fun e => by have := (hv5.rowlt _ e).2.2.2.2.2.2.1; exact this rfl
                  · exact hr5 b (by omega) (hqn b hb hs), Nat.lt_of_lt_of_le hx4 hk5.size⟩)
                have HK5' := Lib.hid (show Kp (fun b => decide (b ≠ k.s)) w w5 from ⟨hk5.os.trans HK4.out.os, hk5.tape.trans HK4.out.tape, hk5.output.trans HK4.out.output, Nat.le_trans HK4.out.size hk5.size, fun b hb hp => (hk5.block b (Nat.lt_of_lt_of_le hb HK4.out.size) (hqn b (.inl hb) (of_decide_eq_true hp))).trans (HK4.out.block b hb hp)⟩)
                have hq0 : qCan NX (w.heap.size + 2) k.s w4 w.heap.size = true := qCan_iff.2 ⟨⟨by omega, by omega⟩, by omega, fun e => by have := (HV4.out.rowlt _ e).2.2.2.2.1; exact this rfl⟩
                have HNB2 := Lib.hid ((hk5.block _ (lt_of_block HV4.out.b) hq0).trans HNB.out)
                clear hst0 hev hxs hbd heok hfd hoi' hpre hv5 hk5 hr5 hqn hil' hpo' hlo5 hq0 hw4 hb5 hx4
                refine HK2.out _ _ HNB2.out (fun hHeld => ?_)
                clear HK2
                try simp only [Act.put, List.getElem_toArray, List.getElem_cons_succ, List.getElem_cons_zero, List.setIfInBounds_toArray, List.set_cons_zero, List.set_cons_succ]
                clear K
                refine wpAnyH_done (by kernel_rfl) ?_ _
                clear hHeld y0 yl hcp
                have hm3 := Nat.le_trans HIL5.out (nodup_few HOI5.out.nd fun x hx => HMN2.out x (HOI5.out.sub x hx))
                have hnn := HN.out
                go_wp2_with (fail)
                go_roundw
                case rel => exact ⟨i + 1, ord', F', by go_num, HIL5, HV5, HOI5, HX5, HK5'⟩
                case measure => simp [intOf]; omega
              · have hie : i = ord.length := by have := HIL.out; omega
                have hilI : ¬ (i : Int) < (ord.length : Int) := by omega
                have hoi := HOI.out
                rw [hie] at hoi
                have HOE := Lib.hid hoi
                clear hie hoi
                go_upto_region 20 with (fail)
                clear hilI y0 yl
                refine wp_region_held_drew (S := fun (V : World) => ∀ b : Nat, V.heap[b]? = wr.heap[b]?) (by kernel_rfl) (fun _ => rfl) (fun hHeld => ?_)
                refine wpAnyH_take (i := 0) (v := .slice ao ord.length co) rfl (by kernel_rfl) (by kernel_rfl) (by kernel_rfl) (fun _ _ _ h => h) (Or.inl ⟨by rfl, ?_⟩) (by assumption) ?_
                · intro w' hSw
                  obtain ⟨d0, -, dl⟩ := c1 ((hSw _).trans HXO.out)
                  first | (go_simp; done) | (go_simp; intro h0; omega) | rfl
                try simp only [Act.put, List.getElem_toArray, List.getElem_cons_succ, List.getElem_cons_zero, List.setIfInBounds_toArray, List.set_cons_zero, List.set_cons_succ]
                refine wpAnyH_take (i := 1) (v := .slice ao ord.length co) rfl (by kernel_rfl) (by kernel_rfl) (by kernel_rfl) (fun _ _ _ h => h) (Or.inl ⟨by rfl, ?_⟩) (by assumption) ?_
                · intro w' hSw
                  obtain ⟨d0, -, dl⟩ := c1 ((hSw _).trans HXO.out)
                  first | (go_simp; done) | (go_simp; intro h0; omega) | rfl
                try simp only [Act.put, List.getElem_toArray, List.getElem_cons_succ, List.getElem_cons_zero, List.setIfInBounds_toArray, List.set_cons_zero, List.set_cons_succ]
                refine wpAnyH_take (i := 2) (v := .int .i64 (ord.length : Int)) rfl (by kernel_rfl) (by kernel_rfl) (by kernel_rfl) (fun _ _ _ h => h) (Or.inl ⟨by rfl, ?_⟩) (by assumption) ?_
                · intro w' hSw
                  first | (go_simp; done) | (go_simp; intro h0; omega) | rfl
                try simp only [Act.put, List.getElem_toArray, List.getElem_cons_succ, List.getElem_cons_zero, List.setIfInBounds_toArray, List.set_cons_zero, List.set_cons_succ]
                refine wpAnyH_take (i := 3) (v := .slice am met.length cm) rfl (by kernel_rfl) (by kernel_rfl) (by kernel_rfl) (fun _ _ _ h => h) (Or.inl ⟨by rfl, ?_⟩) (by assumption) ?_
                · intro w' hSw
                  obtain ⟨d0, -, dl⟩ := c1 ((hSw _).trans HX.out.1)
                  first | (go_simp; done) | (go_simp; intro h0; omega) | rfl
                try simp only [Act.put, List.getElem_toArray, List.getElem_cons_succ, List.getElem_cons_zero, List.setIfInBounds_toArray, List.set_cons_zero, List.set_cons_succ]
                refine wpAnyH_take (i := 4) (v := .int .i64 (met.length : Int)) rfl (by kernel_rfl) (by kernel_rfl) (by kernel_rfl) (fun _ _ _ h => h) (Or.inl ⟨by rfl, ?_⟩) (by assumption) ?_
                · intro w' hSw
                  first | (go_simp; done) | (go_simp; intro h0; omega) | rfl
                try simp only [Act.put, List.getElem_toArray, List.getElem_cons_succ, List.getElem_cons_zero, List.setIfInBounds_toArray, List.set_cons_zero, List.set_cons_succ]
                refine wpAnyH_take (i := 5) (v := .bool ((ord.length : Int) == (met.length : Int))) rfl (by kernel_rfl) (by kernel_rfl) (by kernel_rfl) (fun _ _ _ h => h) (Or.inl ⟨by rfl, ?_⟩) (by assumption) ?_
                · intro w' hSw
                  first | (go_simp; done) | (go_simp; intro h0; omega) | rfl
                try simp only [Act.put, List.getElem_toArray, List.getElem_cons_succ, List.getElem_cons_zero, List.setIfInBounds_toArray, List.set_cons_zero, List.set_cons_succ]
                refine wpAnyH_take (i := 6) (v := .slice ao ord.length co) rfl (by kernel_rfl) (by kernel_rfl) (by kernel_rfl) (fun _ _ _ h => h) (Or.inl ⟨by rfl, ?_⟩) (by assumption) ?_
                · intro w' hSw
                  first | (go_simp; done) | (go_simp; intro h0; omega) | rfl
                try simp only [Act.put, List.getElem_toArray, List.getElem_cons_succ, List.getElem_cons_zero, List.setIfInBounds_toArray, List.set_cons_zero, List.set_cons_succ]
                refine wpAnyH_take (i := 7) (v := .bool ((ord.length : Int) == (met.length : Int))) rfl (by kernel_rfl) (by kernel_rfl) (by kernel_rfl) (fun _ _ _ h => h) (Or.inl ⟨by rfl, ?_⟩) (by assumption) ?_
                · intro w' hSw
                  first | (go_simp; done) | (go_simp; intro h0; omega) | rfl
                try simp only [Act.put, List.getElem_toArray, List.getElem_cons_succ, List.getElem_cons_zero, List.setIfInBounds_toArray, List.set_cons_zero, List.set_cons_succ]
                refine wpAnyH_done (by kernel_rfl) ?_ _
                clear hHeld
                have hrow9 : wr.ownsRow w.heap.size 3 1 (.slice ao ord.length co) ord.length (ints (ord.map fun v => ((v : Nat) : Int))) := own_rebase HOWN2.out fun g' e => by
                  rcases Nat.lt_or_ge g' w.heap.size with q | q
                  · exact absurd ((rowOf_eq HXO.out).trans e) (HX.out.2.1 g' (.inl q))
                  · exact q
                have hbk := HV.out.book
                have hfin : WEnd P k u n g nm st R most l w (.returned (.tuple #[.slice ao ord.length co, .bool ((ord.length : Int) == (met.length : Int))])) wr.drew := by
                  obtain ⟨e9, hT9, hR9⟩ := hbk
                  refine ⟨⟨e9, hT9.below ⟨rfl, rfl, rfl, Nat.le_refl _, fun _ _ => rfl⟩, hR9⟩, ⟨HK.out.os, HK.out.tape, HK.out.output, HK.out.size, HK.out.block⟩, ?_⟩
                  by_cases hle : ord.length = met.length
                  · have hb : ((ord.length : Int) == (met.length : Int)) = true := by rw [hle]; simp
                    rw [hb]
                    have hall := HOE.out.all hle
                    exact .inl ⟨ao, co, ord, rfl, ⟨hrow9.1, hrow9.2⟩, ⟨HOE.out.nd, fun v hv => HMI.out.mem v (HOE.out.sub v hv), fun x hx => hall _ (HSD.out x hx), fun p hp c hc => hall c (HCL.out p (HOE.out.sub p hp) c hc), fun j v hj p hp hc => HOE.out.top j v hj p (HOE.out.sub p hp) hc⟩, by rw [hle]; exact HMS.out⟩
                  · have hb : ((ord.length : Int) == (met.length : Int)) = false := beq_eq_false_iff_ne.2 fun e => hle (by omega)
                    rw [hb]
                    obtain ⟨Z, z1, z2, z3⟩ := HOE.out.circle HMI.out.nd HMN2.out hle
                    exact .inr ⟨_, rfl, .inr ⟨Z, z1, fun c hc => (HMI.out.mem c (z2 c hc)).2.2, z3⟩⟩
                have HFIN := Lib.hid hfin
                clear hrow9 hbk hfin
                go_wp2_with (fail)
                exact bodyPost_ret (by simp [results, Tryd.results60, go_sem]) rfl HFIN.out
          · have HFIN := Lib.hid (show WEnd P k u n g nm st R most l w (.returned (.tuple #[.slice none 0 0, .bool false])) wr from ⟨HI.out.book, HK.out, .inr ⟨_, rfl, .inl ⟨met, HMI.out.nd, HMI.out.mem, by omega⟩⟩⟩)
            have hgt : most < (met.length : Int) := by omega
            go_wp2_with (fail)
            exact bodyPost_ret (by simp [results, Tryd.results60, go_sem]) rfl HFIN.out
end Types
end Go.Proofs.YtjchplgapaeagaaDoor
