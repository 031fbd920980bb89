/-What a variable stands for, or its name. A row of types that grows, all in new memory, beside a book. A type that is made node by node: what is done of it, and what waits in a row. slices.Clone of a node's kids. -/
import Derived.Test.YtjchplgapaeagaaDoorGV10
import Derived.Test.YtjchplgapaeagaaDoorGV07
import Derived.Test.YtjchplgapaeagaaDoorGV03
import Derived.Lib.SliceRun
namespace Go.Proofs.YtjchplgapaeagaaDoor
open Go.RowKit
set_option linter.unusedVariables false
set_option linter.unusedSimpArgs false
namespace Types

/-- What is shown. -/
def shT (nm : Nat → Nat) (st : Nat → Option Ty) (v : Nat) : Ty := (st (nm v)).getD (tyV (nm v))
def ShEnd (P : Nat → Bool) (k : Bk) (u : Up) (n : Nat) (g : Nat → Bool) (nm : Nat → Nat) (st : Nat → Option Ty) (v : Nat) (w : World) (en : Ending) (w' : World) : Prop :=
  ∃ h p l c, en = .returned (.agg #[.int .u8 h.k, .int .i64 h.v, .slice p l c]) ∧ TyIs (veil P w') h p l c (shT nm st v) ∧ ∃ e', TBk P w' k u n e' g ∧ Rep (cmb u e') nm st ∧ Kp (fun b => decide (b ≠ k.s)) w w'
set_option maxRecDepth 100000 in
set_option maxHeartbeats 6400000 in
theorem shown_walk0 (P : Nat → Bool) (k : Bk) (u : Up) (n : Nat) (e : Nat → Option Ty) (g : Nat → Bool) (nm : Nat → Nat) (st : Nat → Option Ty) (v : Nat) (w : World) (hT : TBk P w k u n e g) (hR : Rep (cmb u e) nm st) (hv : v < n) (hP : ∀ b, w.heap.size ≤ b → P b = false) :
    Calls Tryd.prog 65 #[.pointer (some ⟨k.b, 0, none⟩), .int .i64 (v : Int)] w (ShEnd P k u n g nm st v w) := by
  have hnw := name_walk P k u n e g nm st v (w.alloc (.cells #[.int .u8 0, .int .i64 0, .slice none 0 0] 25)) (hT.below (al_new _)) hR hv
  have hks : k.s < w.heap.size := hT.me.st.lt
  have HNW := Lib.hid hnw; have HV := Lib.hid (And.intro hv (And.intro (hR.le v) hT.me.few)); have HKS := Lib.hid hks; have HLOW := Lib.hid hT.all_low; have HP := Lib.hid hP
  have HZ := Lib.hid (heap_alloc_new w (.cells #[.int .u8 0, .int .i64 0, .slice none 0 0] 25))
  have HK0 := Lib.hid ((Kp.refl (fun b => decide (b ≠ k.s)) w).alloc (.cells #[.int .u8 0, .int .i64 0, .slice none 0 0] 25))
  clear hnw hv hks hT hR hP
  go_enter Tryd.func65, Tryd.ntmps65
  go_wp2_with (fail)
  refine HNW.out.mono ?_
  rintro en w1 ⟨rfl, e1, hT1, hR1, hk1⟩
  have hsw := stand_walk P w1 k u n e1 g (nm v) hT1 (keyOk_of (by have := HV.out; omega))
  have HSW := Lib.hid hsw; have HT1 := Lib.hid hT1; have HR1 := Lib.hid hR1; have HK1 := Lib.hid (HK0.out.trans hk1); have HX1 := Lib.hid ((hk1.block _ (lt_of_block HZ.out) (ne_true (by have := HKS.out; omega))).trans HZ.out)
  clear hsw hT1 hR1 hk1 HNW HZ HK0
  go_wp2_with (fail)
  refine HSW.out.mono ?_
  rintro en w2 ⟨h, p, l, c, rfl, hTy, hb2⟩
  rw [HR1.out.at_nm v] at hTy
  have hb3 := hb2.alloc hb2.size (.cells #[.int .u8 h.k, .int .i64 h.v, .slice p l c] 25)
  have hty3 := (Kp.of_below (P := P) hb3).ty hTy
  have HT3 := Lib.hid (HT1.out.below hb3); have HK3 := Lib.hid (HK1.out.trans (Kp.of_below hb3)); have HX3 := Lib.hid ((hb3.block _ (lt_of_block HX1.out)).trans HX1.out)
  have HX5 := Lib.hid (heap_alloc_new w2 (.cells #[.int .u8 h.k, .int .i64 h.v, .slice p l c] 25))
  clear hTy hb2 hb3 HT1 HK1 HX1 HSW
  cases hst : st (nm v) with
  | none =>
    rw [hst] at hty3
    obtain rfl : h = ⟨0, 0⟩ := hty3.head.symm
    have HST := Lib.hid hst
    clear hst hty3
    go_wp2_with (fail)
    refine (variable_walk ((nm v : Nat) : Int) _).mono ?_
    rintro en w3 ⟨rfl, hb4⟩
    have hx := (hb4.block _ (lt_of_block HX3.out)).trans HX3.out
    obtain ⟨⟨g0, g1, g2⟩, ⟨gf0, gf1, gf2⟩, gl⟩ := c3 hx
    have HX := Lib.hid hx; have HT4 := Lib.hid (HT3.out.below hb4); have HK4 := Lib.hid (HK3.out.trans (Kp.of_below hb4))
    clear hx hb4 HX3 HT3 HK3 HX5
    go_wp2_with (fail)
    have hx := HX.out
    have hz := set3b (x := .int .u8 5) (y := .int .i64 ((nm v : Nat) : Int)) (z := .slice none 0 0) hx
    have hball : Below w.heap.size w3 (((w3.setCell ⟨w.heap.size, 0, none⟩ (.int .u8 5)).setCell ⟨w.heap.size, 1, none⟩ (.int .i64 ((nm v : Nat) : Int))).setCell ⟨w.heap.size, 2, none⟩ (.slice none 0 0)) := (((Below.refl _ _).setCell (p := ⟨w.heap.size, 0, none⟩) (Nat.le_refl _) _).setCell (p := ⟨w.heap.size, 1, none⟩) (Nat.le_refl _) _).setCell (p := ⟨w.heap.size, 2, none⟩) (Nat.le_refl _) _
    generalize ((w3.setCell ⟨w.heap.size, 0, none⟩ (.int .u8 5)).setCell ⟨w.heap.size, 1, none⟩ (.int .i64 ((nm v : Nat) : Int))).setCell ⟨w.heap.size, 2, none⟩ (.slice none 0 0) = w9 at *
    clear g0 g1 g2 gf0 gf1 gf2 gl
    obtain ⟨⟨g0, g1, g2⟩, -, gl⟩ := c3 hz
    refine bodyPost_ret (v := .agg #[.int .u8 5, .int .i64 ((nm v : Nat) : Int), .slice none 0 0]) (by simp [results, Tryd.results65, go_sem, g0, g1, g2, gl]) rfl ?_
    exact ⟨⟨5, (nm v : Int)⟩, none, 0, 0, rfl, by unfold shT; rw [HST.out]; exact tyV_is _ (by have := HV.out; omega), e1, HT4.out.low hball HP.out HLOW.out.1 HLOW.out.2, HR1.out, HK4.out.low hball⟩
  | some t =>
    rw [hst] at hty3
    have hne : (h.k != 0) = true := by
      have := may_kind (HR1.out.name hst).2.2.2
      rw [show t.h = h from hty3.head] at this
      simpa using this
    have HST := Lib.hid hst; have HTY := Lib.hid hty3
    have hx := HX3.out
    have hx5 := HX5.out
    obtain ⟨⟨g0, g1, g2⟩, ⟨gf0, gf1, gf2⟩, gl⟩ := c3 hx
    have HX := Lib.hid hx
    clear hx hst hty3 hx5 HX3 HX5
    go_wp2_with (fail)
    have hx := HX.out
    have hz := set3b (x := .int .u8 h.k) (y := .int .i64 h.v) (z := .slice p l c) hx
    have hball : Below w.heap.size (w2.alloc (.cells #[.int .u8 h.k, .int .i64 h.v, .slice p l c] 25)) ((((w2.alloc (.cells #[.int .u8 h.k, .int .i64 h.v, .slice p l c] 25)).setCell ⟨w.heap.size, 0, none⟩ (.int .u8 h.k)).setCell ⟨w.heap.size, 1, none⟩ (.int .i64 h.v)).setCell ⟨w.heap.size, 2, none⟩ (.slice p l c)) := (((Below.refl _ _).setCell (p := ⟨w.heap.size, 0, none⟩) (Nat.le_refl _) _).setCell (p := ⟨w.heap.size, 1, none⟩) (Nat.le_refl _) _).setCell (p := ⟨w.heap.size, 2, none⟩) (Nat.le_refl _) _
    generalize (((w2.alloc (.cells #[.int .u8 h.k, .int .i64 h.v, .slice p l c] 25)).setCell ⟨w.heap.size, 0, none⟩ (.int .u8 h.k)).setCell ⟨w.heap.size, 1, none⟩ (.int .i64 h.v)).setCell ⟨w.heap.size, 2, none⟩ (.slice p l c) = w9 at *
    clear g0 g1 g2 gf0 gf1 gf2 gl
    obtain ⟨⟨g0, g1, g2⟩, -, gl⟩ := c3 hz
    refine bodyPost_ret (v := .agg #[.int .u8 h.k, .int .i64 h.v, .slice p l c]) (by simp [results, Tryd.results65, go_sem, g0, g1, g2, gl]) rfl ?_
    have hr : Kp P (w2.alloc (.cells #[.int .u8 h.k, .int .i64 h.v, .slice p l c] 25)) w9 := ⟨hball.os, hball.tape, hball.output, hball.size, fun b hb hp => hball.block b (by
      rcases Nat.lt_or_ge b w.heap.size with hx | hx
      · exact hx
      · rw [HP.out b hx] at hp; cases hp)⟩
    exact ⟨h, p, l, c, rfl, by unfold shT; rw [HST.out]; exact hr.ty HTY.out, e1, HT3.out.low hball HP.out HLOW.out.1 HLOW.out.2, HR1.out, HK3.out.low hball⟩
/-- .. as all is seen. -/
theorem shown_walk (P : Nat → Bool) (k : Bk) (u : Up) (n : Nat) (e : Nat → Option Ty) (g : Nat → Bool) (nm : Nat → Nat) (st : Nat → Option Ty) (v : Nat) (w : World) (hT : TBk P w k u n e g) (hR : Rep (cmb u e) nm st) (hv : v < n) :
    Calls Tryd.prog 65 #[.pointer (some ⟨k.b, 0, none⟩), .int .i64 (v : Int)] w (ShEnd P k u n g nm st v w) := by
  have h0 := shown_walk0 (P0 P w.heap.size) k u n e g nm st v w (hT.reP (P0_reads P w) (P0_false hT.me.pb) (P0_false hT.me.ps) (P0_false hT.me.pi) fun x hx => ⟨P0_false (hT.upP x hx).1, P0_false (hT.upP x hx).2⟩) hR hv fun b hb => P0_new hb
  refine h0.mono ?_
  rintro en w' ⟨h, p, l, c, he, hty, e1, h1, h2, h3⟩
  exact ⟨h, p, l, c, he, hty.reads' (P0_back w'), e1, h1.reP (P0_back w') hT.me.pb hT.me.ps hT.me.pi hT.upP, h2, h3⟩
end Types
end Go.Proofs.YtjchplgapaeagaaDoor
namespace Go.Proofs.YtjchplgapaeagaaDoor
open Go.RowKit
set_option linter.unusedVariables false
set_option linter.unusedSimpArgs false
namespace Types

/-- From block M on. -/
def from_ (M : Nat) (i : Nat) : Bool := decide (M ≤ i)
/-- From block B on, but the row's own. -/
def seenT (B : Nat) (v : Value) (i : Nat) : Bool := decide (B ≤ i ∧ v.ownBlock ≠ some i)
theorem seenT_iff {B : Nat} {v : Value} {i : Nat} : seenT B v i = true ↔ B ≤ i ∧ v.ownBlock ≠ some i := by unfold seenT; exact decide_eq_true_iff
/-- A row of types that grows: its cells, and its types' kids, which lie in none of these. -/
def RowT (B : Nat) (v : Value) (ts : List Ty) (W : World) : Prop := ∃ xs, W.ownsRow B 25 3 v ts.length xs ∧ Flat (veil (seenT B v) W) xs ts
theorem RowT.nil (B : Nat) (W : World) : RowT B (.slice none 0 0) [] W := ⟨[], World.ownsRow_nil _ _ _ _, rfl⟩
theorem own_below {W W' : World} {B n : Nat} {v : Value} {xs : List Value} (h : W.ownsRow B 25 3 v n xs) (hb : Below W.heap.size W W') : W'.ownsRow B 25 3 v n xs := by
  refine ⟨h.1, h.2.imp id ?_⟩
  rintro ⟨g, cap, cur, rfl, hg, hh, r⟩
  exact ⟨g, cap, cur, rfl, hg, (hb.block g (lt_of_block hh)).trans hh, r⟩
theorem RowT.below {B : Nat} {v : Value} {ts : List Ty} {W W' : World} (h : RowT B v ts W) (hb : Below W.heap.size W W') : RowT B v ts W' := by
  obtain ⟨xs, h1, h2⟩ := h
  exact ⟨xs, own_below h1 hb, h2.reads (veil_to fun b hbl hp => ⟨hp, hb.block b hbl⟩)⟩
theorem RowT.slice {B : Nat} {v : Value} {ts : List Ty} {W : World} (h : RowT B v ts W) : ∃ a c, v = .slice a ts.length c ∧ c ≤ maxLen ∧ ts.length ≤ c := by
  obtain ⟨xs, h1, _⟩ := h; exact own_slice h1
/-- One type more. -/
theorem row_step {B M : Nat} {v v' : Value} {W W3 : World} {ts : List Ty} {xs : List Value} {t : Ty} {hd : Hd} {q : Option Addr} {l c : Nat}
    (ho : W.ownsRow B 25 3 v ts.length xs) (hf : Flat (veil (seenT B v) W) xs ts) (hT : TyIs (veil (from_ M) W) hd q l c t) (hM : B ≤ M) (hg : ∀ g, v.ownBlock = some g → g < M)
    (ho3 : W3.ownsRow B 25 3 v' (ts.length + 1) (xs ++ tcells hd q l c)) (hgr : W.grownBy W3 v.ownBlock) (hat : v'.ownBlock = v.ownBlock ∨ v'.ownBlock = some W.heap.size) : RowT B v' (ts ++ [t]) W3 := by
  refine ⟨xs ++ tcells hd q l c, by rw [List.length_append]; exact ho3, ?_⟩
  have key : ∀ b, b < W.heap.size → B ≤ b → v.ownBlock ≠ some b → seenT B v' b = true ∧ W3.heap[b]? = W.heap[b]? := fun b hb h1 h2 => by
    refine ⟨seenT_iff.2 ⟨h1, ?_⟩, hgr.block b hb (fun e => h2 e.symm)⟩
    rcases hat with e | e <;> rw [e]
    · exact h2
    · intro e2; injection e2 with e2; omega
  refine (hf.reads (veil_to fun b hb hp => ?_)).append (Flat.one (hT.reads' (veil_to fun b hb hp => ?_)))
  · obtain ⟨h1, h2⟩ := seenT_iff.1 hp
    exact key b hb h1 h2
  · have h1 : M ≤ b := of_decide_eq_true hp
    exact key b hb (by omega) (fun e => by have := hg b e; omega)
theorem RowT.kids {B : Nat} {a : Option Addr} {c : Nat} {ts : List Ty} {W : World} (h : RowT B (.slice a ts.length c) ts W) : Kids (veil (from_ B) W) a ts := by
  obtain ⟨xs, h1, h2⟩ := h
  by_cases h0 : ts.length = 0
  · rw [List.length_eq_zero_iff.1 h0]; exact .nokids _
  · obtain ⟨g, rfl, hg⟩ := own_at h1 (by omega)
    have hin : Reads (veil (seenT B (.slice (some ⟨g, 0, none⟩) ts.length c)) W) (veil (from_ B) W) := veil_to fun b hb hp => ⟨decide_eq_true (seenT_iff.1 hp).1, rfl⟩
    refine kids_of_flat (fun j u hu => ?_) (h2.reads hin)
    have hc := row_cell h1 hu
    rw [World.cell?_of_block (veil_at (decide_eq_true hg))]
    exact hc

theorem RowT.kp {B x : Nat} {v : Value} {ts : List Ty} {W W' : World} (h : RowT B v ts W) (hk : Kp (fun b => decide (b ≠ x)) W W') (hx : x < B) : RowT B v ts W' := by
  obtain ⟨xs, h1, h2⟩ := h
  exact ⟨xs, own_kp h1 hk hx, h2.reads (veil_to fun b hbl hp => ⟨hp, hk.block b hbl (decide_eq_true (by have := (seenT_iff.1 hp).1; omega))⟩)⟩
end Types
end Go.Proofs.YtjchplgapaeagaaDoor
namespace Go.Proofs.YtjchplgapaeagaaDoor
open Go.RowKit
set_option linter.unusedVariables false
set_option linter.unusedSimpArgs false
namespace Types

def At3 (W : World) (b o : Nat) (h : Hd) (q : Option Addr) (l c : Nat) : Prop := ∃ cur : Array Value, W.heap[b]? = some (.cells cur 25 (0, 0)) ∧ cur[o]? = some (.int .u8 h.k) ∧ cur[o + 1]? = some (.int .i64 h.v) ∧ cur[o + 2]? = some (.slice q l c)
theorem At3.cell {W : World} {b o : Nat} {h : Hd} {q : Option Addr} {l c : Nat} (k : At3 W b o h q l c) : (W.cell? ⟨b, o, none⟩ = some (.int .u8 h.k) ∧ W.cell? ⟨b, o + 1, none⟩ = some (.int .i64 h.v) ∧ W.cell? ⟨b, o + 2, none⟩ = some (.slice q l c)) ∧ (W.frozen? ⟨b, o, none⟩ = false ∧ W.frozen? ⟨b, o + 1, none⟩ = false ∧ W.frozen? ⟨b, o + 2, none⟩ = false) ∧ b < W.heap.size := by
  obtain ⟨cur, h0, h1, h2, h3⟩ := k
  refine ⟨?_, ?_, lt_of_block h0⟩
  · simp [World.cell?, h0, h1, h2, h3]
  · simp [World.frozen?, h0]
inductive Nd (σ : Nat → Ty) (B : Nat) (W : World) (R : List (Nat × Nat × Ty)) : Nat → Nat → Ty → Prop where
  | wait {b o : Nat} {u : Ty} : (b, o, u) ∈ R → Nd σ B W R b o (inst σ u)
  | done {b o : Nat} {T : Ty} {h : Hd} {q : Option Addr} {l c : Nat} : (∀ u, (b, o, u) ∉ R) → o % 3 = 0 → At3 W b o h q l c → HdOk h → T.h = h → T.ks.length = l → l ≤ c ∧ c ≤ maxLen → (∀ j, j < l → ∃ g, q = some ⟨g, 0, none⟩ ∧ B ≤ g) → (∀ j, j < l → ∀ g, q = some ⟨g, 0, none⟩ → Nd σ B W R g (j * 3) (tget T.ks j)) → Nd σ B W R b o T
structure RI (P : Nat → Bool) (B n : Nat) (W : World) (R : List (Nat × Nat × Ty)) : Prop where
  nd : (R.map fun x => (x.1, x.2.1)).Nodup
  ent : ∀ b o u, (b, o, u) ∈ R → B ≤ b ∧ o % 3 = 0 ∧ mayT u = true ∧ (∀ v ∈ varsT u, v < n) ∧ ∃ h q l c, At3 W b o h q l c ∧ TyIs (veil P W) h q l c u
/-- What is turned: three cells. -/
def Fr (W W' : World) (b o : Nat) : Prop := ∀ (b' : Nat) (cur : Array Value), W.heap[b']? = some (.cells cur 25 (0, 0)) → ∃ cur' : Array Value, W'.heap[b']? = some (.cells cur' 25 (0, 0)) ∧ ∀ i, (b' ≠ b ∨ i < o ∨ o + 3 ≤ i) → cur'[i]? = cur[i]?
section
variable {σ : Nat → Ty} {P : Nat → Bool} {B n : Nat} {W W' W'' : World} {R rest : List (Nat × Nat × Ty)} {b o : Nat} {u : Ty}
theorem Fr.trans (h : Fr W W' b o) (k : Fr W' W'' b o) : Fr W W'' b o := fun b' cur hc => by
  obtain ⟨c1, h1, h2⟩ := h b' cur hc
  obtain ⟨c2, k1, k2⟩ := k b' c1 h1
  exact ⟨c2, k1, fun i hi => (k2 i hi).trans (h2 i hi)⟩
theorem Fr.of (h : ∀ (b' : Nat) (cur : Array Value), W.heap[b']? = some (Obj.cells cur 25 (0, 0)) → W'.heap[b']? = W.heap[b']?) (b o : Nat) : Fr W W' b o := fun b' cur hc => ⟨cur, (h b' cur hc).trans hc, fun i _ => rfl⟩
theorem At3.keep (h : Fr W W' b o) {b' o' : Nat} (ho : o % 3 = 0) (ho' : o' % 3 = 0) (hne : b' ≠ b ∨ o' ≠ o) {hd : Hd} {q : Option Addr} {l c : Nat} (k : At3 W b' o' hd q l c) : At3 W' b' o' hd q l c := by
  obtain ⟨cur, h0, h1, h2, h3⟩ := k
  obtain ⟨cur', k0, k1⟩ := h b' cur h0
  have hx : ∀ j, j < 3 → (b' ≠ b ∨ o' + j < o ∨ o + 3 ≤ o' + j) := fun j hj => by
    rcases hne with e | e
    · exact .inl e
    · exact .inr (by omega)
  exact ⟨cur', k0, (k1 o' (hx 0 (by omega))).trans h1, (k1 (o' + 1) (hx 1 (by omega))).trans h2, (k1 (o' + 2) (hx 2 (by omega))).trans h3⟩
theorem RI.pop (h : RI P B n W (rest ++ [(b, o, u)])) : ∀ v, (b, o, v) ∉ rest := fun v hv => by
  have hd := h.nd
  rw [List.map_append, List.nodup_append] at hd
  exact hd.2.2 (b, o) (List.mem_map.2 ⟨(b, o, v), hv, rfl⟩) (b, o) (by simp) rfl
/-- The kids of a node, in a new block. -/
def kidsR (g : Nat) (us : List Ty) : List (Nat × Nat × Ty) := (List.range us.length).map fun j => (g, j * 3, tget us j)
theorem mem_kidsR {g : Nat} {us : List Ty} {x : Nat × Nat × Ty} : x ∈ kidsR g us ↔ ∃ j, j < us.length ∧ x = (g, j * 3, tget us j) := by
  unfold kidsR
  rw [List.mem_map]
  exact ⟨fun ⟨j, hj, e⟩ => ⟨j, List.mem_range.1 hj, e.symm⟩, fun ⟨j, hj, e⟩ => ⟨j, List.mem_range.2 hj, e.symm⟩⟩
/-- A node is done; its kids wait. -/
theorem Nd.step {B0 : Nat} (hR : RI P B0 n W (rest ++ [(b, o, u)])) (hf : Fr W W' b o) {h : Hd} {q : Option Addr} {c g : Nat} {us : List Ty} (ha : At3 W' b o h q us.length c) (hok : HdOk h) (hh : (inst σ u).h = h) (hks : (inst σ u).ks = us.map (inst σ)) (hc : us.length ≤ c ∧ c ≤ maxLen)
    (hq : 0 < us.length → q = some ⟨g, 0, none⟩ ∧ B ≤ g) (hg : W.heap.size ≤ g) {b' o' : Nat} {T : Ty} (hN : Nd σ B W (rest ++ [(b, o, u)]) b' o' T) : Nd σ B W' (rest ++ kidsR g us) b' o' T := by
  have hmod : o % 3 = 0 := (hR.ent b o u (by simp)).2.1
  have hbl : b < W.heap.size := by obtain ⟨_, _, _, _, _, _, _, _, ⟨_, h0, _⟩, _⟩ := hR.ent b o u (by simp); exact lt_of_block h0
  have hpop := hR.pop
  have hkid : ∀ j, j < us.length → Nd σ B W' (rest ++ kidsR g us) g (j * 3) (inst σ (tget us j)) := fun j hj => .wait (List.mem_append_right _ (mem_kidsR.2 ⟨j, hj, rfl⟩))
  have hme : Nd σ B W' (rest ++ kidsR g us) b o (inst σ u) := by
    refine .done (h := h) (q := q) (l := us.length) (c := c) (fun v hv => ?_) hmod ha hok hh (by rw [hks, List.length_map]) hc (fun j hj => ⟨g, hq (by omega)⟩) (fun j hj g' e => ?_)
    · rcases List.mem_append.1 hv with hv | hv
      · exact hpop v hv
      · obtain ⟨j, _, e⟩ := mem_kidsR.1 hv
        injection e with e; omega
    · have := (hq (by omega)).1
      rw [this] at e
      injection e with e; injection e with e
      subst e
      rw [hks, tget_map hj]
      exact hkid j hj
  induction hN with
  | wait hm =>
    rcases List.mem_append.1 hm with hm | hm
    · exact .wait (List.mem_append_left _ hm)
    · rw [List.mem_singleton] at hm
      cases hm
      exact hme
  | done hno ho' ha' hok' hh' hl' hc' hq' hrec ih =>
    rename_i b1 o1 T1 h1 q1 l1 c1
    have hne : b1 ≠ b ∨ o1 ≠ o := by
      by_cases e1 : b1 = b
      · by_cases e2 : o1 = o
        · subst e1 e2; exact absurd (by simp) (hno u)
        · exact .inr e2
      · exact .inl e1
    have hb1 : b1 < W.heap.size := by obtain ⟨_, h0, _⟩ := ha'; exact lt_of_block h0
    refine .done (fun v hv => ?_) ho' (ha'.keep hf hmod ho' hne) hok' hh' hl' hc' hq' ih
    rcases List.mem_append.1 hv with hv | hv
    · exact hno v (List.mem_append_left _ hv)
    · obtain ⟨j, _, e⟩ := mem_kidsR.1 hv
      injection e with e; omega
/-- The row, then. -/
theorem RI.step (hR : RI P B n W (rest ++ [(b, o, u)])) (hf : Fr W W' b o) (hP : ∀ W1 : List Ty, True) (hk : Reads (veil P W) (veil P W')) {g : Nat} {us : List Ty} (hg : W.heap.size ≤ g) (hBg : B ≤ g)
    (hus : ∀ j, j < us.length → mayT (tget us j) = true ∧ (∀ v ∈ varsT (tget us j), v < n) ∧ ∃ h q l c, At3 W' g (j * 3) h q l c ∧ TyIs (veil P W') h q l c (tget us j)) : RI P B n W' (rest ++ kidsR g us) := by
  have hmod : o % 3 = 0 := (hR.ent b o u (by simp)).2.1
  have hlt : ∀ b1 o1 v, (b1, o1, v) ∈ rest → b1 < W.heap.size := fun b1 o1 v hv => by
    obtain ⟨_, _, _, _, _, _, _, _, ⟨_, h0, _⟩, _⟩ := hR.ent b1 o1 v (List.mem_append_left _ hv); exact lt_of_block h0
  refine ⟨?_, fun b1 o1 v hv => ?_⟩
  · have hd := hR.nd
    rw [List.map_append, List.nodup_append] at hd ⊢
    refine ⟨hd.1, ?_, fun x hx y hy e => ?_⟩
    · unfold kidsR
      rw [List.map_map]
      refine List.pairwise_map.2 (List.nodup_range.imp fun {a b} hab e => hab ?_)
      have : a * 3 = b * 3 := by injection e
      omega
    · obtain ⟨x', hx', rfl⟩ := List.mem_map.1 hx
      obtain ⟨y', hy', rfl⟩ := List.mem_map.1 hy
      obtain ⟨j, _, rfl⟩ := mem_kidsR.1 hy'
      have h1 := hlt x'.1 x'.2.1 x'.2.2 hx'
      injection e with e1 e2
      have e1 : x'.1 = g := e1
      omega
  · rcases List.mem_append.1 hv with hv | hv
    · obtain ⟨h1, h2, h3, h4, hd, q, l, c, ha, ht⟩ := hR.ent b1 o1 v (List.mem_append_left _ hv)
      refine ⟨h1, h2, h3, h4, hd, q, l, c, ha.keep hf hmod h2 ?_, ht.reads' hk⟩
      by_cases e1 : b1 = b
      · by_cases e2 : o1 = o
        · subst e1 e2; exact absurd hv (hR.pop v)
        · exact .inr e2
      · exact .inl e1
    · obtain ⟨j, hj, e⟩ := mem_kidsR.1 hv
      cases e
      obtain ⟨a1, a2, a3⟩ := hus j hj
      exact ⟨hBg, by omega, a1, a2, a3⟩
/-- Where the types' blocks stay. -/
def SameT (W W' : World) : Prop := ∀ (b' : Nat) (cur : Array Value), W.heap[b']? = some (Obj.cells cur 25 (0, 0)) → W'.heap[b']? = W.heap[b']?
theorem SameT.at3 (h : SameT W W') {b' o' : Nat} {hd : Hd} {q : Option Addr} {l c : Nat} (k : At3 W b' o' hd q l c) : At3 W' b' o' hd q l c := by
  obtain ⟨cur, h0, h1⟩ := k
  exact ⟨cur, (h b' cur h0).trans h0, h1⟩
theorem Nd.same (h : SameT W W') {T : Ty} (hN : Nd σ B W R b o T) : Nd σ B W' R b o T := by
  induction hN with
  | wait hm => exact .wait hm
  | done hno ho ha hok hh hl hc hq hrec ih => exact .done hno ho (h.at3 ha) hok hh hl hc hq ih
theorem RI.same (hR : RI P B n W R) (h : SameT W W') (hk : Reads (veil P W) (veil P W')) : RI P B n W' R :=
  ⟨hR.nd, fun b o u hm => by
    obtain ⟨h1, h2, h3, h4, hd, q, l, c, ha, ht⟩ := hR.ent b o u hm
    exact ⟨h1, h2, h3, h4, hd, q, l, c, h.at3 ha, ht.reads' hk⟩⟩
/-- At the end. -/
theorem Nd.fin {T : Ty} (hN : Nd σ B W [] b o T) : ∃ h q l c, At3 W b o h q l c ∧ TyIs (veil (from_ B) W) h q l c T := by
  induction hN with
  | wait hm => cases hm
  | done hno ho ha hok hh hl hc hq hrec ih =>
    rename_i b1 o1 T1 h1 q1 l1 c1
    refine ⟨h1, q1, l1, c1, ha, hh, hl, hok, hc, ?_⟩
    rcases Nat.eq_zero_or_pos l1 with h0 | h0
    · have : T1.ks = [] := List.eq_nil_of_length_eq_zero (by omega)
      rw [this]; exact .nokids _
    · obtain ⟨g, rfl, hBg⟩ := hq 0 h0
      have each : ∀ i, ∃ x : Hd × Option Addr × Nat × Nat, i < l1 → At3 W g (i * 3) x.1 x.2.1 x.2.2.1 x.2.2.2 ∧ TyIs (veil (from_ B) W) x.1 x.2.1 x.2.2.1 x.2.2.2 (tget T1.ks i) := fun i => by
        by_cases hi : i < l1
        · obtain ⟨h, q, l, c, k1, k2⟩ := ih i hi g rfl
          exact ⟨(h, q, l, c), fun _ => ⟨k1, k2⟩⟩
        · exact ⟨(⟨0, 0⟩, none, 0, 0), fun h => absurd h hi⟩
      obtain ⟨f, hf⟩ := Classical.axiomOfChoice each
      have hv : ∀ i, (veil (from_ B) W).cell? ⟨g, i, none⟩ = W.cell? ⟨g, i, none⟩ := fun i => World.cell?_of_block (veil_at (decide_eq_true hBg))
      refine .atkids g 0 T1.ks (fun i => (f i).2.1) (fun i => (f i).2.2.2) (fun i hi => ?_) (fun i hi j v hv' => ?_) (fun i hi => ?_) (fun i hi => ?_)
      all_goals obtain ⟨k1, k2⟩ := hf i (by omega)
      · rw [k2.head]; exact k2.ok
      · rw [hv, Nat.zero_add]
        have hcl := k1.cell.1
        rw [k2.head, k2.len] at hv'
        match j, hv' with
        | 0, e => simp [tcells] at e; subst e; exact hcl.1
        | 1, e => simp [tcells] at e; subst e; exact hcl.2.1
        | 2, e => simp [tcells] at e; subst e; exact hcl.2.2
        | j + 3, e => simp [tcells] at e
      · rw [k2.len]; exact k2.cap
      · exact k2.kids
end
end Types
end Go.Proofs.YtjchplgapaeagaaDoor
namespace Go.Proofs.YtjchplgapaeagaaDoor
open Go.RowKit Go.Lib
set_option linter.unusedVariables false
set_option linter.unusedSimpArgs false
namespace Types

/-- In new memory, with what they reach as it was. -/
def ClT (P : Nat → Bool) (ts : List Ty) (w : World) (en : Ending) (w' : World) : Prop :=
  ∃ q c, en = .returned (.slice q ts.length c) ∧ ts.length ≤ c ∧ c ≤ maxLen ∧ Below w.heap.size w w' ∧ (0 < ts.length → ∃ g, q = some ⟨g, 0, none⟩ ∧ w.heap.size ≤ g ∧ ∀ j, j < ts.length → ∃ h q' l' c', At3 w' g (j * 3) h q' l' c' ∧ TyIs (veil P w') h q' l' c' (tget ts j))
theorem own_at3 {W : World} {B g n c : Nat} {xs : List Value} (h : W.ownsRow B 25 3 (.slice (some ⟨g, 0, none⟩) n c) n xs) {j : Nat} {hd : Hd} {q : Option Addr} {l cc : Nat} (h0 : xs[j * 3]? = some (.int .u8 hd.k)) (h1 : xs[j * 3 + 1]? = some (.int .i64 hd.v)) (h2 : xs[j * 3 + 2]? = some (.slice q l cc)) : At3 W g (j * 3) hd q l cc := by
  rcases h.2 with ⟨hv, _⟩ | ⟨g', cap, cur, hv, _, hg, _, _, _, h4⟩
  · cases hv
  · cases hv
    have hx : ∀ i v, xs[i]? = some v → cur[i]? = some v := fun i v hi => by
      rw [← h4, List.getElem?_take] at hi
      split at hi
      · simpa using hi
      · cases hi
    exact ⟨cur, hg, hx _ _ h0, hx _ _ h1, hx _ _ h2⟩
set_option maxRecDepth 10000 in
set_option maxHeartbeats 6400000 in
theorem cloneT_walk (P : Nat → Bool) (ts : List Ty) (p : Option Addr) (d : Nat) (w : World) (hK : Kids (veil P w) p ts) (hl : ts.length ≤ 2) :
    Calls Tryd.prog 66 #[.slice p ts.length d] w (ClT P ts w) := by
  obtain ⟨i0, hi, hz0, hz1, hz2⟩ := info_parts infoType
  have HI := Lib.hid hi; have HZ0 := Lib.hid hz0; have HZ1 := Lib.hid hz1; have HZ2 := Lib.hid hz2; have HL := Lib.hid hl; have HK := Lib.hid hK
  clear hi hz0 hz1 hz2 hl hK
  have hnil := run_eql_slice_nil (P := Tryd.prog) w 23 25 p ts.length d 0 0 rfl
  cases p with
  | none =>
    have h0 : ts = [] := by have := HK.out; cases this; rfl
    subst h0
    have hnil2 : (binOp .eql 23 (.slice none 0 d) (.slice none 0 0)).run Tryd.prog w = .ok (.bool true) w := hnil
    clear hnil
    show Calls Tryd.prog 66 #[.slice none 0 d] w (ClT P [] w)
    go_enter Tryd.func66, Tryd.ntmps66
    go_wp2_with (fail)
    refine bodyPost_ret (v := .slice none 0 0) (by simp [results, Tryd.results66, go_sem]) rfl ?_
    exact ⟨none, 0, rfl, Nat.le_refl _, Nat.zero_le _, Below.refl _ _, fun h => absurd h (by decide)⟩
  | some ad =>
    have hnil' : (binOp .eql 23 (.slice (some ad) ts.length d) (.slice none 0 0)).run Tryd.prog w = .ok (.bool false) w := hnil
    obtain ⟨xs, hxl, hxs, hx1, hxt⟩ : ∃ xs : List Value, xs.length = ts.length * 3 ∧ (∀ j v, xs[j]? = some v → w.cell? (ad.add j) = some v) ∧ (∀ v ∈ xs, v.oneCell' = true) ∧ ∀ j, j < ts.length → ∃ h q l c, xs[j * 3]? = some (.int .u8 h.k) ∧ xs[j * 3 + 1]? = some (.int .i64 h.v) ∧ xs[j * 3 + 2]? = some (.slice q l c) ∧ TyIs (veil P w) h q l c (tget ts j) := by
      have hone : ∀ j, j < ts.length → ∃ h q l c, (∀ i v, (tcells h q l c)[i]? = some v → w.cell? (ad.add (j * 3 + i)) = some v) ∧ TyIs (veil P w) h q l c (tget ts j) := fun j hj => by
        obtain ⟨b, o, q, c, e, hT, c0, c1, c2⟩ := HK.out.get j hj
        cases e
        refine ⟨_, q, _, c, fun i v hv => ?_, hT⟩
        rw [Addr.add_lit]
        match i, hv with
        | 0, e => simp [tcells] at e; subst e; exact (veil_seen c0).2
        | 1, e => simp [tcells] at e; subst e; rw [← Nat.add_assoc]; exact (veil_seen c1).2
        | 2, e => simp [tcells] at e; subst e; rw [← Nat.add_assoc]; exact (veil_seen c2).2
        | i + 3, e => simp [tcells] at e
      match ts, HL.out, hone with
      | [], _, _ => exact ⟨[], rfl, fun j v h => (by simp at h), fun v h => (by cases h), fun j h => absurd h (Nat.not_lt_zero j)⟩
      | [x], _, hone =>
        obtain ⟨h, q, l, c, k1, k2⟩ := hone 0 (by simp)
        refine ⟨tcells h q l c, rfl, fun j v hv => by have := k1 j v hv; rwa [Nat.zero_mul, Nat.zero_add] at this, cells_one' h q l c, fun j hj => ?_⟩
        obtain rfl : j = 0 := by simp at hj; omega
        exact ⟨h, q, l, c, rfl, rfl, rfl, k2⟩
      | [x, y], _, hone =>
        obtain ⟨h, q, l, c, k1, k2⟩ := hone 0 (by simp)
        obtain ⟨h', q', l', c', m1, m2⟩ := hone 1 (by simp)
        refine ⟨tcells h q l c ++ tcells h' q' l' c', rfl, fun j v hv => ?_, fun v hv => ?_, fun j hj => ?_⟩
        · rcases Nat.lt_or_ge j 3 with hj | hj
          · rw [List.getElem?_append_left (by show j < 3; omega)] at hv
            have := k1 j v hv; rwa [Nat.zero_mul, Nat.zero_add] at this
          · rw [List.getElem?_append_right (by show 3 ≤ j; omega)] at hv
            have := m1 (j - 3) v hv
            rwa [show 1 * 3 + (j - 3) = j by omega] at this
        · rcases List.mem_append.1 hv with hv | hv
          · exact cells_one' h q l c v hv
          · exact cells_one' h' q' l' c' v hv
        · match j, hj with
          | 0, _ => exact ⟨h, q, l, c, rfl, rfl, rfl, k2⟩
          | 1, _ => exact ⟨h', q', l', c', rfl, rfl, rfl, m2⟩
          | j + 2, hj => exact absurd hj (Nat.not_lt.2 (Nat.le_add_left 2 j))
      | x :: y :: z :: r, h2, _ => exact absurd h2 (by simp)
    have hn0 := heap_alloc_new w (.cells #[] 25)
    have hz0 : (w.alloc (.cells #[] 25)).heap.size = w.heap.size + 1 := by simp
    have hb0 := al_new (W := w) (.cells #[] 25)
    have hown : (w.alloc (.cells #[] 25)).ownsRow w.heap.size 25 3 (.slice (some ⟨w.heap.size, 0, none⟩) 0 0) 0 [] := ⟨rfl, .inr ⟨_, 0, #[], rfl, Nat.le_refl _, hn0, Nat.le_refl _, Nat.zero_le _, rfl, rfl⟩⟩
    have hxs' : ∀ j v, xs[j]? = some v → (w.alloc (.cells #[] 25)).cell? (ad.add j) = some v := fun j v hv => by
      have := hxs j v hv
      have hlt := World.block_lt_of_cell? w _ this
      exact (hb0.cell (p := ad.add j) hlt).trans this
    have hll : ts.length ≤ 2 := HL.out
    have HOW := Lib.hid hown; have HXS := Lib.hid hxs'; have HXL := Lib.hid (And.intro hxl hx1); have HXT := Lib.hid hxt; have HB0 := Lib.hid hb0; have HZ := Lib.hid hz0
    clear hnil hown hxs hxs' hxl hx1 hxt hb0 hz0 hn0
    go_enter Tryd.func66, Tryd.ntmps66
    go_wp2_with (at_builtin; refine wpList_append_own_at _ rfl (.tmp 5) (.tmp 6) 23 rfl w.heap.size 25 i0 _ 3 40 Tryd.underlying23 HI.out HZ0.out HZ1.out HZ2.out rfl (by decide) (.slice (some ⟨w.heap.size, 0, none⟩) 0 0) 0 [] rfl HOW.out ad ts.length d xs rfl HXL.out.1 HXS.out HXL.out.2 (by unfold maxLen; omega) (by omega) (by rw [HZ.out]; omega) ?_; intro v' w3 hown3 hgr3 _ hat3; have HO3 := Lib.hid hown3; have HG3 := Lib.hid hgr3; have HA3 := Lib.hid hat3; clear hown3 hgr3 hat3)
    have hown3 := HO3.out
    rw [Nat.zero_add, List.nil_append] at hown3
    obtain ⟨a3, c3, rfl, hc3, hn3⟩ := own_slice hown3
    have hbl : Below w.heap.size w w3 := by
      refine ⟨HG3.out.os, HG3.out.tape, HG3.out.output, ?_, fun b hb => ?_⟩
      · have := HG3.out.size; have := HZ.out; omega
      · exact (HG3.out.block b (by rw [HZ.out]; omega) (fun e => by injection e with e; have e : b = w.heap.size := e; omega)).trans (HB0.out.block b hb)
    refine bodyPost_ret (v := .slice a3 ts.length c3) (by simp [results, Tryd.results66, go_sem]) rfl ⟨a3, c3, rfl, hn3, hc3, hbl, fun h0 => ?_⟩
    obtain ⟨g, rfl, hg⟩ := own_at hown3 h0
    refine ⟨g, rfl, hg, fun j hj => ?_⟩
    obtain ⟨h, q, l, c, x0, x1, x2, ht⟩ := HXT.out j hj
    exact ⟨h, q, l, c, own_at3 hown3 x0 x1 x2, (Kp.of_below (P := P) hbl).ty ht⟩
end Types
end Go.Proofs.YtjchplgapaeagaaDoor
