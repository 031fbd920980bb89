/-Types as variables: for one that is none there is one of the book's own. (Written by wip/tools/unopened.py.) A row of ints of one's own is sorted, and made compact. -/
import Derived.Test.YtjchplgapaeagaaDoorGV06
import Derived.Test.YtjchplgapaeagaaDoorGV03
import Derived.Maps.AppendAt
import Derived.Test.YtjchplgapaeagaaDoorUnShelf
import Derived.Sort.OwnSortedInts
namespace Go.Proofs.YtjchplgapaeagaaDoor
open Go.RowKit
set_option linter.unusedVariables false
set_option linter.unusedSimpArgs false
namespace Types

theorem own_slice {w : World} {base e size n : Nat} {v : Value} {xs : List Value} (h : w.ownsRow base e size v n xs) : ∃ a c, v = .slice a n c ∧ c ≤ maxLen ∧ n ≤ c := by
  rcases h.2 with ⟨hv, h0⟩ | ⟨g, cap, _, hv, _, _, h1, h2, _⟩
  · subst h0; exact ⟨none, 0, hv, by unfold maxLen; omega, Nat.le_refl _⟩
  · exact ⟨_, cap, hv, h2, h1⟩
theorem own_at {w : World} {base e size n c : Nat} {a : Option Addr} {xs : List Value} (h : w.ownsRow base e size (.slice a n c) n xs) (hn : 0 < n) : ∃ g, a = some ⟨g, 0, none⟩ ∧ base ≤ g := by
  rcases h.2 with ⟨_, h0⟩ | ⟨g, cap, _, hv, hg, _⟩
  · omega
  · injection hv with hv; exact ⟨g, hv, hg⟩
theorem row_cell {w : World} {base e size n c g : Nat} {xs : List Value} (h : w.ownsRow base e size (.slice (some ⟨g, 0, none⟩) n c) n xs) {j : Nat} {u : Value} (hu : xs[j]? = some u) : w.cell? ⟨g, j, none⟩ = some u := by
  have := h.cells (g := g) rfl j u hu
  rw [Addr.add_lit] at this
  simpa using this
/-- A row of one's own stays, where the blocks from its base on do. -/
theorem own_kp {w W : World} {B e size n x : Nat} {v : Value} {xs : List Value} (h : w.ownsRow B e size v n xs) (hk : Kp (fun b => decide (b ≠ x)) w W) (hx : x < B) : W.ownsRow B e size v n xs :=
  ⟨h.1, h.2.elim .inl fun ⟨g, cap, cur, h1, h2, h3, h4⟩ => .inr ⟨g, cap, cur, h1, h2, (hk.block g (lt_of_block h3) (decide_eq_true (by omega))).trans h3, h4⟩⟩
theorem own_all {w W : World} {B e size n : Nat} {v : Value} {xs : List Value} (h : w.ownsRow B e size v n xs) (hb : Below w.heap.size w W) : W.ownsRow B e size v n xs :=
  ⟨h.1, h.2.elim .inl fun ⟨g, cap, cur, h1, h2, h3, h4⟩ => .inr ⟨g, cap, cur, h1, h2, (hb.block g (lt_of_block h3)).trans h3, h4⟩⟩
theorem own_set3 {W : World} {B e size n N : Nat} {v x y z : Value} {xs : List Value} (h : W.ownsRow B e size v n xs) (hN : ∀ g, v.ownBlock = some g → g ≠ N) : (((W.setCell ⟨N, 0, none⟩ x).setCell ⟨N, 1, none⟩ y).setCell ⟨N, 2, none⟩ z).ownsRow B e size v n xs :=
  ⟨h.1, h.2.elim .inl fun ⟨g, cap, cur, h1, h2, h3, h4⟩ => .inr ⟨g, cap, cur, h1, h2, (set3o _ _ _ _ _ (hN g (by rw [h1]; rfl))).trans h3, h4⟩⟩
/-- Variables, one behind the other. -/
def FlatV (xs : List Value) (vs : List Nat) : Prop := ∀ W, Flat W xs (vs.map tyV)
theorem FlatV.nil : FlatV [] [] := fun W => rfl
theorem FlatV.snoc {xs : List Value} {vs : List Nat} {v : Nat} {q : Option Addr} {c : Nat} (h : FlatV xs vs) (hv : (v : Int) ≤ 9223372036854775807) (hc : c ≤ maxLen) : FlatV (xs ++ tcells ⟨5, (v : Int)⟩ q 0 c) (vs ++ [v]) := fun W => by
  rw [List.map_append]
  exact (h W).append (Flat.one (t := tyV v) ⟨rfl, rfl, ⟨by show (0 : Int) ≤ 5 ∧ (5 : Int) ≤ 255; omega, by show (-9223372036854775808 : Int) ≤ (v : Int) ∧ (v : Int) ≤ 9223372036854775807; omega⟩, ⟨Nat.zero_le _, hc⟩, .nokids _⟩)
theorem kids_flatV {W : World} {B n c : Nat} {a : Option Addr} {xs : List Value} {vs : List Nat} (P : Nat → Bool) (h : W.ownsRow B 25 3 (.slice a n c) n xs) (hf : FlatV xs vs) (hn : n = vs.length) (hP : ∀ b, B ≤ b → P b = true) : Kids (veil P W) a (vs.map tyV) := by
  by_cases h0 : n = 0
  · have : vs = [] := List.eq_nil_of_length_eq_zero (by omega)
    subst this; exact .nokids _
  · obtain ⟨g, rfl, hg⟩ := own_at h (by omega)
    refine kids_of_flat (fun j u hu => ?_) (hf _)
    have hc := row_cell h hu
    rw [World.cell?_of_block (veil_at (hP g hg))]
    exact hc
theorem new_cells' {w : World} {N : Nat} {h : Hd} {q : Option Addr} {l c : Nat} {ty : TypeId} (hN : N = w.heap.size) (j : Nat) : ∀ u, (tcells h q l c)[j]? = some u → (w.alloc (.cells #[.int .u8 h.k, .int .i64 h.v, .slice q l c] ty)).cell? ((⟨N, 0, none⟩ : Addr).add j) = some u := by
  intro u hu
  subst hN
  rw [Addr.add_lit, Nat.zero_add, World.cell?_alloc_mark]
  simpa [tcells] using hu
theorem cells_one' (h : Hd) (q : Option Addr) (l c : Nat) : ∀ u ∈ tcells h q l c, u.oneCell' = true := by
  intro u hu
  simp [tcells] at hu
  rcases hu with rfl | rfl | rfl <;> rfl
theorem tcells_len (h : Hd) (q : Option Addr) (l c : Nat) : (tcells h q l c).length = 3 := rfl
/-- How it ends. -/
def OpEnd (P : Nat → Bool) (k : Bk) (u : Up) (n : Nat) (e : Nat → Option Ty) (g : Nat → Bool) (ts : List Ty) (w : World) (en : Ending) (w' : World) : Prop :=
  ∃ q c, en = .returned (.slice q ts.length c) ∧ ts.length ≤ c ∧ c ≤ maxLen ∧ Kids (veil P w') q ((opV n ts).map tyV) ∧ TBk P w' k u (opN n ts) (opF e n ts) g ∧ Kp (fun b => decide (b ≠ k.b ∧ b ≠ k.s)) w w'
theorem TBk.low {P : Nat → Bool} {w w' : World} {k : Bk} {u : Up} {n : Nat} {e : Nat → Option Ty} {g : Nat → Bool} {B : Nat} (h : TBk P w k u n e g) (hb : Below B w w') (hP : ∀ b, B ≤ b → P b = false) (h1 : k.b < B ∧ k.s < B ∧ k.i < B) (h2 : ∀ x, u = some x → x.1.b < B ∧ x.1.s < B) : TBk P w' k u n e g := by
  have hr : Reads (veil P w) (veil P w') := veil_to fun b _ hp => ⟨hp, hb.block b (by
    rcases Nat.lt_or_ge b B with hx | hx
    · exact hx
    · rw [hP b hx] at hp; cases hp)⟩
  have one : ∀ {k : Bk} {up : Option Addr} {n : Nat} {e : Nat → Option Ty}, BkAt P w k up n e g → k.b < B → k.s < B → k.i < B → BkAt P w' k up n e g := fun h a b c =>
    { h with box := (hb.block _ a).trans h.box, st := h.st.keep (hb.block _ b) hr, inn := h.inn.keep (hb.block _ c) }
  refine ⟨one h.me h1.1 h1.2.1 h1.2.2, ?_⟩
  have hu := h.up
  unfold UpOk at hu ⊢
  split
  · trivial
  · rename_i x
    exact ⟨one hu.1 (h2 x rfl).1 (h2 x rfl).2 (by rw [hu.2.1]; exact h1.2.2), hu.2⟩
theorem TBk.all_low {P : Nat → Bool} {w : World} {k : Bk} {u : Up} {n : Nat} {e : Nat → Option Ty} {g : Nat → Bool} (h : TBk P w k u n e g) : (k.b < w.heap.size ∧ k.s < w.heap.size ∧ k.i < w.heap.size) ∧ ∀ x, u = some x → x.1.b < w.heap.size ∧ x.1.s < w.heap.size := by
  refine ⟨⟨lt_of_block h.me.box, h.me.st.lt, h.me.inn.lt⟩, fun x hx => ?_⟩
  have hu := h.up
  subst hx
  exact ⟨lt_of_block hu.1.box, hu.1.st.lt⟩
theorem Kp.low {Q : Nat → Bool} {w w1 w2 : World} (h : Kp Q w w1) (hb : Below w.heap.size w1 w2) : Kp Q w w2 :=
  ⟨hb.os.trans h.os, hb.tape.trans h.tape, hb.output.trans h.output, Nat.le_trans h.size hb.size, fun b hlt hq => (hb.block b hlt).trans (h.block b hlt hq)⟩
def OpEnd0 (P : Nat → Bool) (k : Bk) (u : Up) (n : Nat) (e : Nat → Option Ty) (g : Nat → Bool) (ts : List Ty) (w : World) (en : Ending) (w' : World) : Prop :=
  ∃ q c, en = .returned (.slice q ts.length c) ∧ ts.length ≤ c ∧ c ≤ maxLen ∧ (∀ P', (∀ b, w.heap.size ≤ b → P' b = true) → Kids (veil P' w') q ((opV n ts).map tyV)) ∧ TBk P w' k u (opN n ts) (opF e n ts) g ∧ Kp (fun b => decide (b ≠ k.b ∧ b ≠ k.s)) w w'
theorem StAt.reP {P P' : Nat → Bool} {w : World} {b : Nat} {f : Nat → Option Ty} (h : StAt P w b f) (hr : Reads (veil P w) (veil P' w)) : StAt P' w b f := by
  obtain ⟨F, h1, h2⟩ := h
  refine ⟨F, h1, fun i => (h2 i).imp _root_.id ?_⟩
  rintro ⟨t, h, p, l, c, e1, e2, hT⟩
  exact ⟨t, h, p, l, c, e1, e2, hT.reads' hr⟩
/-- The same book, of which more or less is seen. -/
theorem TBk.reP {P P' : Nat → Bool} {w : World} {k : Bk} {u : Up} {n : Nat} {e : Nat → Option Ty} {g : Nat → Bool} (h : TBk P w k u n e g) (hr : Reads (veil P w) (veil P' w)) (h1 : P' k.b = false) (h2 : P' k.s = false) (h3 : P' k.i = false) (h4 : ∀ x, u = some x → P' x.1.b = false ∧ P' x.1.s = false) : TBk P' w k u n e g := by
  have one : ∀ {k : Bk} {up : Option Addr} {n : Nat} {e : Nat → Option Ty}, BkAt P w k up n e g → P' k.b = false → P' k.s = false → P' k.i = false → BkAt P' w k up n e g := fun h a b c =>
    { h with st := h.st.reP hr, pb := a, ps := b, pi := c }
  refine ⟨one h.me h1 h2 h3, ?_⟩
  have hu := h.up
  unfold UpOk at hu ⊢
  split
  · trivial
  · rename_i x
    exact ⟨one hu.1 (h4 x rfl).1 (h4 x rfl).2 (by rw [hu.2.1]; exact h3), hu.2⟩
theorem TBk.upP {P : Nat → Bool} {w : World} {k : Bk} {u : Up} {n : Nat} {e : Nat → Option Ty} {g : Nat → Bool} (h : TBk P w k u n e g) : ∀ x, u = some x → P x.1.b = false ∧ P x.1.s = false := fun x hx => by
  have hu := h.up
  subst hx
  exact ⟨hu.1.pb, hu.1.ps⟩
/-- Of what was there at first. -/
def P0 (P : Nat → Bool) (B : Nat) (b : Nat) : Bool := P b && decide (b < B)
theorem P0_reads (P : Nat → Bool) (w : World) : Reads (veil P w) (veil (P0 P w.heap.size) w) := veil_to fun b hb hp => ⟨by unfold P0; rw [hp]; simpa using hb, rfl⟩
theorem P0_back {P : Nat → Bool} {B : Nat} (w : World) : Reads (veil (P0 P B) w) (veil P w) := veil_to fun b _ hp => ⟨by unfold P0 at hp; rw [Bool.and_eq_true] at hp; exact hp.1, rfl⟩
theorem P0_false {P : Nat → Bool} {B b : Nat} (h : P b = false) : P0 P B b = false := by unfold P0; rw [h]; rfl
theorem P0_new {P : Nat → Bool} {B b : Nat} (h : B ≤ b) : P0 P B b = false := by unfold P0; rw [decide_eq_false (by omega), Bool.and_false]
theorem kp_b {k : Bk} {w w' : World} (h : Kp (fun b => decide (b ≠ k.b)) w w') : Kp (fun b => decide (b ≠ k.b ∧ b ≠ k.s)) w w' := h.mono fun b hb => decide_eq_true (of_decide_eq_true hb).1
theorem kp_s {k : Bk} {w w' : World} (h : Kp (fun b => decide (b ≠ k.s)) w w') : Kp (fun b => decide (b ≠ k.b ∧ b ≠ k.s)) w w' := h.mono fun b hb => decide_eq_true (of_decide_eq_true hb).2
theorem kp_P {P : Nat → Bool} {k : Bk} (h1 : P k.b = false) (h2 : P k.s = false) {w w' : World} (h : Kp (fun b => decide (b ≠ k.b ∧ b ≠ k.s)) w w') : Kp P w w' :=
  h.mono fun b hb => decide_eq_true ⟨fun e => (by subst e; rw [h1] at hb; cases hb), fun e => (by subst e; rw [h2] at hb; cases hb)⟩
theorem opV_step {n : Nat} {ts : List Ty} {j : Nat} (h : j < ts.length) (hk : (tget ts j).h.k = 5) : opV n (ts.drop j) = (tget ts j).h.v.toNat :: opV n (ts.drop (j + 1)) ∧ opN n (ts.drop j) = opN n (ts.drop (j + 1)) ∧ ∀ e : Nat → Option Ty, opF e n (ts.drop j) = opF e n (ts.drop (j + 1)) := by
  rw [drop_tget ts j h]
  refine ⟨?_, ?_, fun e => ?_⟩
  · conv => lhs; unfold opV
    rw [if_pos hk]
  · conv => lhs; unfold opN
    rw [if_pos hk]
  · conv => lhs; unfold opF
    rw [if_pos hk]
theorem opV_own {n : Nat} {ts : List Ty} {j : Nat} (h : j < ts.length) (hk : (tget ts j).h.k ≠ 5) : opV n (ts.drop j) = n :: opV (n + 1) (ts.drop (j + 1)) ∧ opN n (ts.drop j) = opN (n + 1) (ts.drop (j + 1)) ∧ ∀ e : Nat → Option Ty, opF e n (ts.drop j) = opF (upd e n (some (tget ts j))) (n + 1) (ts.drop (j + 1)) := by
  rw [drop_tget ts j h]
  refine ⟨?_, ?_, fun e => ?_⟩
  · conv => lhs; unfold opV
    rw [if_neg hk]
  · conv => lhs; unfold opN
    rw [if_neg hk]
  · conv => lhs; unfold opF
    rw [if_neg hk]
set_option maxRecDepth 100000 in
set_option maxHeartbeats 12800000 in
theorem opened_walk0 (P : Nat → Bool) (k : Bk) (u : Up) (n : Nat) (e : Nat → Option Ty) (g : Nat → Bool) (ts : List Ty) (p : Option Addr) (l d : Nat) (w : World) (hT : TBk P w k u n e g) (hK : Kids (veil P w) p ts) (hl : ts.length = l) (hm : ∀ s ∈ ts, mayT s = true)
    (hn : n + l < 1000000000) (hP : ∀ b, w.heap.size ≤ b → P b = false) :
    Calls Tryd.prog 51 #[.pointer (some ⟨k.b, 0, none⟩), .slice p l d] w (OpEnd0 P k u n e g ts w) := by
  obtain ⟨i0, hi, hz0, hz1, hz2⟩ := info_parts infoType
  have hkb : k.b < w.heap.size := lt_of_block hT.me.box
  have hks : k.s < w.heap.size := hT.me.st.lt
  have HI := Lib.hid hi; have HZ0 := Lib.hid hz0; have HZ1 := Lib.hid hz1; have HZ2 := Lib.hid hz2
  have HT := Lib.hid hT; have HKI := Lib.hid hK; have HL := Lib.hid hl; have HM := Lib.hid hm; have HN := Lib.hid hn; have HP := Lib.hid hP; have HLOW := Lib.hid hT.all_low; have HKB := Lib.hid hkb; have HKS := Lib.hid hks
  clear hi hz0 hz1 hz2 hT hK hm hP hkb hks
  have hlx : (l : Int) < 1000000000 := by omega
  clear hn hl
  go_enter Tryd.func51, Tryd.ntmps51
  go_wp2_with (fail)
  go_loopw [5, 11] (fun own i wr => ∃ (j c nn : Nat) (a : Option Addr) (e' : Nat → Option Ty) (vs : List Nat) (xs : List Value), j ≤ l ∧ i = .int .i64 j ∧ own = .slice a j c ∧ Hid (wr.ownsRow w.heap.size 25 3 (.slice a j c) j xs) ∧ Hid (FlatV xs vs ∧ vs.length = j) ∧
    Hid (opV n ts = vs ++ opV nn (ts.drop j) ∧ opN n ts = opN nn (ts.drop j) ∧ opF e n ts = opF e' nn (ts.drop j)) ∧ Hid (nn ≤ n + j) ∧ Hid (TBk P wr k u nn e' g) ∧ Hid (Kp (fun b => decide (b ≠ k.b ∧ b ≠ k.s)) w wr)) (fun _ i _ => l - (intOf i).toNat)
  case atStart => exact ⟨0, 0, n, none, e, [], [], Nat.zero_le _, rfl, rfl, Lib.hid (World.ownsRow_nil _ _ _ _), Lib.hid ⟨FlatV.nil, rfl⟩, Lib.hid (by rw [List.drop_zero]; exact ⟨rfl, rfl, rfl⟩), Lib.hid (by omega), HT, Lib.hid (Kp.refl _ _)⟩
  case round =>
    obtain ⟨j, c0, nn, a, e', vs, xs, hj, rfl, rfl, HO, HF, HE, HNN, HT1, HK⟩ := hrel
    by_cases hlt : j < l
    · have hjk : j < ts.length := by rw [HL.out]; exact hlt
      have hkr := (kp_P HT1.out.me.pb HT1.out.me.ps HK.out).kids HKI.out
      obtain ⟨bb, o, q, c', rfl, hkid, e0, e1, e2⟩ := hkr.get j hjk
      obtain ⟨hd, hhd⟩ : ∃ hd, hd = (tget ts j).h := ⟨_, rfl⟩
      obtain ⟨lk, hlk⟩ : ∃ lk, lk = (tget ts j).ks.length := ⟨_, rfl⟩
      rw [← hhd] at e0 e1 hkid
      rw [← hlk] at e2 hkid
      have f0 := (veil_seen e0).2
      have f1 := (veil_seen e1).2
      have f2 := (veil_seen e2).2
      have hmj := HM.out _ (tget_mem hjk)
      have hsz : w.heap.size ≤ wr.heap.size := HK.out.size
      have HJK := Lib.hid hjk; have HKID := Lib.hid hkid; have HMJ := Lib.hid hmj; have HSZ := Lib.hid hsz
      have HT2 := Lib.hid (HT1.out.below (al_new (.cells #[.int .u8 hd.k, .int .i64 hd.v, .slice q lk c'] 25))); have HK2 := Lib.hid (HK.out.alloc (.cells #[.int .u8 hd.k, .int .i64 hd.v, .slice q lk c'] 25)); have HO2 := Lib.hid (own_all HO.out (al_new (.cells #[.int .u8 hd.k, .int .i64 hd.v, .slice q lk c'] 25)))
      have HX := Lib.hid (heap_alloc_new wr (.cells #[.int .u8 hd.k, .int .i64 hd.v, .slice q lk c'] 25))
      have HTY := Lib.hid ((Kp.of_below (P := P) (al_new (W := wr) (.cells #[.int .u8 hd.k, .int .i64 hd.v, .slice q lk c'] 25))).ty hkid)
      have HHD := Lib.hid hhd; have HLK := Lib.hid hlk; have HGL := Lib.hid (fun g hg => (HO.out.lt g hg).2)
      clear hkr hkid hmj hsz e0 e1 e2 hhd hlk HT1 HK HO
      by_cases h5 : (tget ts j).h.k = 5
      · have ev := is_var HMJ.out h5
        obtain ⟨x, hx⟩ : ∃ x, tget ts j = tyV x := ⟨_, ev⟩
        obtain rfl : hd = ⟨5, (x : Int)⟩ := by rw [HHD.out, hx]; rfl
        obtain rfl : lk = 0 := by rw [HLK.out, hx]; rfl
        have hst := opV_step (n := nn) HJK.out h5
        rw [hx] at hst
        have HST := Lib.hid hst
        clear ev hx h5 hst
        have hsw : w.heap.size ≤ wr.heap.size := HSZ.out
        have hown0 := HO2.out
        have HXB := Lib.hid HKID.out.ok.v.2; have HQ := Lib.hid HKID.out.cap.2
        go_wp2_with (at_builtin; refine wpList_append_own_at _ rfl (.tmp 28) (.tmp 30) 23 rfl w.heap.size 25 i0 _ 3 40 Tryd.underlying23 HI.out HZ0.out HZ1.out HZ2.out rfl (by decide) (.slice a j c0) j xs rfl (own_all HO2.out (al_new _)) ⟨wr.heap.size + 1, 0, none⟩ 1 1 (tcells ⟨5, (x : Int)⟩ q 0 c') rfl rfl (new_cells' (by simp)) (cells_one' _ _ _ _) (by unfold maxLen; omega) (by omega) (by simp; omega) ?_; intro v' w3 hown3 hgrow3 _ hat3; obtain ⟨a3, c3, rfl, hc3, hn3⟩ := own_slice hown3; have hbl := (Below.refl w.heap.size _).grown hgrow3 (by simp; omega) (fun g hg => (hown0.lt g hg).1); have HT3 := Lib.hid ((HT2.out.below (al_new _)).low hbl (fun b hb => HP.out b hb) HLOW.out.1 HLOW.out.2); have HK3 := Lib.hid ((HK2.out.alloc _).low hbl); have HO3 := Lib.hid hown3; have HC3 := Lib.hid (And.intro hc3 hn3); clear hown3 hgrow3 hat3 hbl hown0 hc3 hn3)
        go_roundw
        case rel => exact ⟨j + 1, c3, nn, a3, e', vs ++ [x], _, by omega, by go_num, rfl, HO3, Lib.hid ⟨HF.out.1.snoc (by have := HXB.out; omega) HQ.out, by rw [List.length_append, HF.out.2]; rfl⟩, Lib.hid ⟨by rw [HE.out.1, HST.out.1, List.append_assoc]; rfl, HE.out.2.1.trans HST.out.2.1, HE.out.2.2.trans (HST.out.2.2 e')⟩, Lib.hid (by have := HNN.out; omega), HT3, HK3⟩
        case measure => simp [intOf]; omega
      · have hst := opV_own (n := nn) HJK.out h5
        have HST := Lib.hid hst
        have hk5 : (hd.k != 5) = true := by rw [HHD.out]; simpa using h5
        have hfw := fresh_walk P k u nn e' g (wr.alloc (.cells #[.int .u8 hd.k, .int .i64 hd.v, .slice q lk c'] 25)) HT2.out (by have := HNN.out; have := HN.out; omega)
        have HFW := Lib.hid hfw
        clear hst hfw h5
        go_wp2_with (fail)
        refine HFW.out.mono ?_
        rintro en w1 ⟨rfl, hT3, hk3⟩
        have hkbr : k.b < wr.heap.size := Nat.lt_of_lt_of_le HKB.out HSZ.out
        have hx1 := (hk3.block _ (lt_of_block HX.out) (ne_true (show wr.heap.size ≠ k.b by omega))).trans HX.out
        have HX1 := Lib.hid ((al_new (W := w1) (.cells #[.int .u8 5, .int .i64 (nn : Int), .slice none 0 0] 25)).block _ (lt_of_block hx1) |>.trans hx1); have HX8 := Lib.hid (heap_alloc_new w1 (.cells #[.int .u8 5, .int .i64 (nn : Int), .slice none 0 0] 25))
        have HT4 := Lib.hid (hT3.below (al_new (.cells #[.int .u8 5, .int .i64 (nn : Int), .slice none 0 0] 25)))
        have HK4 := Lib.hid ((HK2.out.trans (kp_b hk3)).alloc (.cells #[.int .u8 5, .int .i64 (nn : Int), .slice none 0 0] 25))
        have HO4 := Lib.hid (own_all (own_kp HO2.out hk3 HKB.out) (al_new (.cells #[.int .u8 5, .int .i64 (nn : Int), .slice none 0 0] 25)))
        have hP1 : Kp P (wr.alloc (.cells #[.int .u8 hd.k, .int .i64 hd.v, .slice q lk c'] 25)) w1 := hk3.mono fun b hb => decide_eq_true fun e => (by subst e; rw [HT2.out.me.pb] at hb; cases hb)
        have HTY4 := Lib.hid ((hP1.trans (Kp.of_below (al_new (.cells #[.int .u8 5, .int .i64 (nn : Int), .slice none 0 0] 25)))).ty HTY.out)
        have HS1 := Lib.hid (show wr.heap.size + 1 ≤ w1.heap.size by have := hk3.size; simpa using this)
        have hnk : nn ≤ 1000000000 := by have := HNN.out; have := HN.out; omega
        have HNK := Lib.hid hnk
        obtain ⟨⟨g0, g1, g2⟩, gf, gl⟩ := c3 hx1
        clear hx1 hT3 hk3 hP1 HFW HT2 HK2 HO2 hkbr f0 f1 f2 hnk
        go_upto_region 7 with (fail)
        generalize hw4 : w1.alloc (.cells #[.int .u8 5, .int .i64 (nn : Int), .slice none 0 0] 25) = w4 at *
        have hz4 : w1.heap.size + 1 = w4.heap.size := by rw [← hw4]; simp
        have HZ4 := Lib.hid hz4
        clear hw4 g0 g1 g2 gf gl hz4
        refine wp_region_held_drew (S := fun V => ∀ b, b ≠ k.s → V.heap[b]? = w4.heap[b]?) (by kernel_rfl) (fun _ _ => rfl) (fun hHeld => ?_)
        have h8s : w1.heap.size ≠ k.s := by have := HKS.out; have := HSZ.out; have := HS1.out; omega
        have h7s : wr.heap.size ≠ k.s := by have := HKS.out; have := HSZ.out; omega
        refine wpAnyH_take (i := 0) (v := .pointer (some ⟨k.b, 0, none⟩)) rfl (by kernel_rfl) (by kernel_rfl) (by kernel_rfl) (fun _ _ _ h => h) (Or.inl ⟨by rfl, ?_⟩) (by assumption) ?_
        · intro w' hSw
          first | (go_simp; done) | rfl
        try simp only [Act.put, List.getElem_toArray, List.getElem_cons_succ, List.getElem_cons_zero, List.setIfInBounds_toArray, List.set_cons_zero, List.set_cons_succ]
        refine wpAnyH_take (i := 1) (v := .pointer (some ⟨k.b, 0, none⟩)) rfl (by kernel_rfl) (by kernel_rfl) (by kernel_rfl) (fun _ _ _ h => h) (Or.inl ⟨by rfl, ?_⟩) (by assumption) ?_
        · intro w' hSw
          first | (go_simp; done) | rfl
        try simp only [Act.put, List.getElem_toArray, List.getElem_cons_succ, List.getElem_cons_zero, List.setIfInBounds_toArray, List.set_cons_zero, List.set_cons_succ]
        refine wpAnyH_take (i := 2) (v := .pointer (some ⟨k.b, 2, none⟩)) rfl (by kernel_rfl) (by kernel_rfl) (by kernel_rfl) (fun _ _ _ h => h) (Or.inl ⟨by rfl, ?_⟩) (by assumption) ?_
        · intro w' hSw
          first | (go_simp; done) | rfl
        try simp only [Act.put, List.getElem_toArray, List.getElem_cons_succ, List.getElem_cons_zero, List.setIfInBounds_toArray, List.set_cons_zero, List.set_cons_succ]
        refine wpAnyH_take (i := 3) (v := .map (some k.s)) rfl (by kernel_rfl) (by kernel_rfl) (by kernel_rfl) (fun _ _ _ h => h) (Or.inl ⟨by rfl, ?_⟩) (by assumption) ?_
        · intro w' hSw
          obtain ⟨d0, d1, d2, d3, dl⟩ := bkc ((hSw k.b HT4.out.me.bs).trans HT4.out.me.box)
          first | (go_simp; done) | rfl
        try simp only [Act.put, List.getElem_toArray, List.getElem_cons_succ, List.getElem_cons_zero, List.setIfInBounds_toArray, List.set_cons_zero, List.set_cons_succ]
        refine wpAnyH_take (i := 4) (v := .pointer (some ⟨w1.heap.size, 1, none⟩)) rfl (by kernel_rfl) (by kernel_rfl) (by kernel_rfl) (fun _ _ _ h => h) (Or.inl ⟨by rfl, ?_⟩) (by assumption) ?_
        · intro w' hSw
          first | (go_simp; done) | rfl
        try simp only [Act.put, List.getElem_toArray, List.getElem_cons_succ, List.getElem_cons_zero, List.setIfInBounds_toArray, List.set_cons_zero, List.set_cons_succ]
        refine wpAnyH_take (i := 5) (v := .int .i64 (nn : Int)) rfl (by kernel_rfl) (by kernel_rfl) (by kernel_rfl) (fun _ _ _ h => h) (Or.inl ⟨by rfl, ?_⟩) (by assumption) ?_
        · intro w' hSw
          obtain ⟨⟨d0, d1, d2⟩, -, dl⟩ := c3 ((hSw _ h8s).trans HX8.out)
          first | (go_simp; done) | rfl
        try simp only [Act.put, List.getElem_toArray, List.getElem_cons_succ, List.getElem_cons_zero, List.setIfInBounds_toArray, List.set_cons_zero, List.set_cons_succ]
        refine wpAnyH_take (i := 6) (v := .agg #[.int .u8 hd.k, .int .i64 hd.v, .slice q lk c']) rfl (by kernel_rfl) (by kernel_rfl) (by kernel_rfl) (fun _ _ _ h => h) (Or.inl ⟨by rfl, ?_⟩) (by assumption) ?_
        · intro w' hSw
          obtain ⟨⟨d0, d1, d2⟩, -, dl⟩ := c3 ((hSw _ h7s).trans HX1.out)
          first | (go_simp; done) | rfl
        try simp only [Act.put, List.getElem_toArray, List.getElem_cons_succ, List.getElem_cons_zero, List.setIfInBounds_toArray, List.set_cons_zero, List.set_cons_succ]
        refine wpAnyH_ready (rs := [7]) (by kernel_rfl) (by simp) ?_
        refine AllReadyH.cons rfl (fun K hK => ?_) AllReadyH.nil
        have HK2 := Lib.hid hK
        clear hK
        try rw [if_pos (by rfl)]
        obtain ⟨F, hM, hF⟩ := HT4.out.me.st
        have hFn : ∀ i, KeyOk i → F i ≠ none → i < nn + 1 := fun i _ hi => by
          rcases hF i with ⟨_, b⟩ | ⟨t, _, _, _, _, a, _⟩
          · exact absurd b hi
          · exact HT4.out.me.lt i t a
        refine wp_store 56 25 Tryd.underlying56 k.s (nn + 1) nn F (.agg #[.int .u8 hd.k, .int .i64 hd.v, .slice q lk c']) rfl rfl rfl (hM.of_block rfl : MapAt w4.drew k.s F) hFn (by have := HNK.out; unfold maxLen; omega) (keyOk_of (by have := HNK.out; omega)) (fun w5 hm hg hs => ?_)
        replace hg : w4.grownBy w5 (some k.s) := ⟨hg.os, hg.tape, hg.output, hg.size, hg.block⟩
        replace hs : w5.heap.size = w4.heap.size := hs
        have hoff : ∀ b, b ≠ k.s → w5.heap[b]? = w4.heap[b]? := fun b hb => store_off hg hs hb
        have hkp : Kp (fun b => decide (b ≠ k.s)) w4 w5 := ⟨hg.os, hg.tape, hg.output, Nat.le_of_eq hs.symm, fun b hb hp => hoff b (of_decide_eq_true hp)⟩
        have hput := HT4.out.put hkp (StAt.put hF HTY4.out hm (veil_kp HT4.out.me.ps hkp).reads) (fun v t hvt => by
          by_cases e : v = nn
          · omega
          · rw [upd_other _ _ e] at hvt; exact HT4.out.me.lt v t hvt)
        have HT5 := Lib.hid hput; have HK5 := Lib.hid (HK4.out.trans (kp_s hkp)); have HO5 := Lib.hid (own_kp HO4.out hkp HKS.out)
        have HX5 := Lib.hid ((hoff _ h7s).trans HX1.out); have HY5 := Lib.hid ((hoff _ h8s).trans HX8.out); have HOFF := Lib.hid hoff; have HZ5 := Lib.hid (HZ4.out.trans hs.symm)
        clear hM hF hFn hm hg hs hoff hkp hput HT4 HK4 HO4 HX1 HX8 HTY4
        refine HK2.out _ _ HOFF.out (fun hHeld => ?_)
        clear HK2
        try simp only [Act.put, List.getElem_toArray, List.getElem_cons_succ, List.getElem_cons_zero, List.setIfInBounds_toArray, List.set_cons_zero, List.set_cons_succ]
        clear K
        refine wpAnyH_done (by kernel_rfl) ?_ _
        clear hHeld HOFF h8s h7s
        obtain ⟨⟨g0, g1, g2⟩, ⟨gf0, gf1, gf2⟩, gl⟩ := c3 HX5.out
        obtain ⟨⟨x0, x1, x2⟩, xf, xl⟩ := c3 HY5.out
        have hz5 := HZ5.out
        go_upto_region 9 with (fail)
        have hb6 : Below w.heap.size w5 (((w5.setCell ⟨wr.heap.size, 0, none⟩ (.int .u8 5)).setCell ⟨wr.heap.size, 1, none⟩ (.int .i64 (nn : Int))).setCell ⟨wr.heap.size, 2, none⟩ (.slice none 0 0)) := (((Below.refl _ _).setCell (p := ⟨wr.heap.size, 0, none⟩) HSZ.out _).setCell (p := ⟨wr.heap.size, 1, none⟩) HSZ.out _).setCell (p := ⟨wr.heap.size, 2, none⟩) HSZ.out _
        have hown6 := own_set3 (N := wr.heap.size) (x := .int .u8 5) (y := .int .i64 (nn : Int)) (z := .slice none 0 0) HO5.out (fun g hg e => by have := HGL.out g hg; omega)
        have hx6 := set3b (x := .int .u8 5) (y := .int .i64 (nn : Int)) (z := .slice none 0 0) HX5.out
        have hs6 : (((w5.setCell ⟨wr.heap.size, 0, none⟩ (.int .u8 5)).setCell ⟨wr.heap.size, 1, none⟩ (.int .i64 (nn : Int))).setCell ⟨wr.heap.size, 2, none⟩ (.slice none 0 0)).heap.size = w5.heap.size := by simp [World.setCell]
        generalize (((w5.setCell ⟨wr.heap.size, 0, none⟩ (.int .u8 5)).setCell ⟨wr.heap.size, 1, none⟩ (.int .i64 (nn : Int))).setCell ⟨wr.heap.size, 2, none⟩ (.slice none 0 0)) = w6 at *
        have hs6w : w.heap.size ≤ w6.heap.size := by have := HSZ.out; have := HS1.out; have := HZ5.out; omega
        have HT6 := Lib.hid (HT5.out.low hb6 (fun b hb => HP.out b hb) HLOW.out.1 HLOW.out.2); have HK6 := Lib.hid (HK5.out.low hb6)
        have hown0 := hown6
        clear g0 g1 g2 gf0 gf1 gf2 gl x0 x1 x2 xf xl hb6 HT5 HK5 HO5 HX5 HY5 hs6
        obtain ⟨⟨g0, g1, g2⟩, gf, gl⟩ := c3 hx6
        clear hx6
        go_wp2_with (at_builtin; refine wpList_append_own_at _ rfl (.tmp 28) (.tmp 30) 23 rfl w.heap.size 25 i0 _ 3 40 Tryd.underlying23 HI.out HZ0.out HZ1.out HZ2.out rfl (by decide) (.slice a j c0) j xs rfl (own_all hown6 (al_new _)) ⟨w6.heap.size, 0, none⟩ 1 1 (tcells ⟨5, (nn : Int)⟩ none 0 0) rfl rfl (new_cells' rfl) (cells_one' _ _ _ _) (by unfold maxLen; omega) (by omega) (by simp; omega) ?_; intro v' w3 hown3 hgrow3 _ hat3; obtain ⟨a3, c3, rfl, hc3, hn3⟩ := own_slice hown3; have hbl := (Below.refl w.heap.size _).grown hgrow3 (by simp; omega) (fun g hg => (hown0.lt g hg).1); have HT3 := Lib.hid ((HT6.out.below (al_new _)).low hbl (fun b hb => HP.out b hb) HLOW.out.1 HLOW.out.2); have HK3 := Lib.hid ((HK6.out.alloc _).low hbl); have HO3 := Lib.hid hown3; clear hown3 hgrow3 hat3 hbl hown0 hc3 hn3)
        go_roundw
        case rel => exact ⟨j + 1, c3, nn + 1, a3, _, vs ++ [nn], _, by omega, by go_num, rfl, HO3, Lib.hid ⟨HF.out.1.snoc (by have := HNK.out; omega) (by unfold maxLen; omega), by rw [List.length_append, HF.out.2]; rfl⟩, Lib.hid ⟨by rw [HE.out.1, HST.out.1, List.append_assoc]; rfl, HE.out.2.1.trans HST.out.2.1, HE.out.2.2.trans (HST.out.2.2 e')⟩, Lib.hid (by have := HNN.out; omega), HT3, HK3⟩
        case measure => simp [intOf]; omega
    · obtain rfl : j = l := by omega
      obtain ⟨q1, q2, q3⟩ := HE.out
      rw [List.drop_eq_nil_of_le (by rw [HL.out]; exact Nat.le_refl _)] at q1 q2 q3
      have q1' : opV n ts = vs := by rw [q1]; unfold opV; simp
      have q2' : opN n ts = nn := q2
      have q3' : opF e n ts = e' := q3
      obtain ⟨aa, cc, hv, hc1, hc2⟩ := own_slice HO.out
      injection hv with hv1 hv2 hv3
      subst hv1 hv3
      have hfin : OpEnd0 P k u n e g ts w (.returned (.slice a j c0)) wr := ⟨a, c0, by rw [HL.out], by rw [HL.out]; exact hc2, hc1, fun P' hP' => by rw [q1']; exact kids_flatV P' HO.out HF.out.1 HF.out.2.symm hP', by rw [q2', q3']; exact HT1.out, HK.out⟩
      have HFIN := Lib.hid hfin
      clear q1 q2 q3 q1' q2' q3' hv2 hc1 hc2 hfin
      go_wp2_with (fail)
      go_ret
      exact HFIN.out
/-- .. as all is seen. -/
theorem opened_walk (P : Nat → Bool) (k : Bk) (u : Up) (n : Nat) (e : Nat → Option Ty) (g : Nat → Bool) (ts : List Ty) (p : Option Addr) (l d : Nat) (w : World) (hT : TBk P w k u n e g) (hK : Kids (veil P w) p ts) (hl : ts.length = l) (hm : ∀ s ∈ ts, mayT s = true)
    (hn : n + l < 1000000000) (hP : ∀ b, w.heap.size ≤ b → P b = true) :
    Calls Tryd.prog 51 #[.pointer (some ⟨k.b, 0, none⟩), .slice p l d] w (OpEnd P k u n e g ts w) := by
  have hlow := hT.all_low
  have h0 := opened_walk0 (P0 P w.heap.size) k u n e g ts p l d w (hT.reP (P0_reads P w) (P0_false hT.me.pb) (P0_false hT.me.ps) (P0_false hT.me.pi) fun x hx => ⟨P0_false (hT.upP x hx).1, P0_false (hT.upP x hx).2⟩) (hK.reads' (P0_reads P w)) hl hm hn fun b hb => P0_new hb
  refine h0.mono ?_
  rintro en w' ⟨q, c, he, h1, h2, h3, h4, h5⟩
  exact ⟨q, c, he, h1, h2, h3 P hP, h4.reP (P0_back w') hT.me.pb hT.me.ps hT.me.pi hT.upP, h5⟩
end Types
end Go.Proofs.YtjchplgapaeagaaDoor
namespace Go.Proofs.YtjchplgapaeagaaDoor
open Go.RowKit Go.Sort
set_option linter.unusedVariables false
set_option linter.unusedSimpArgs false
namespace Types

theorem own_pop {w : World} {base e size n c m : Nat} {a : Option Addr} {xs : List Value} (h : w.ownsRow base e size (.slice a n c) n xs) (hm : m ≤ n) (hn : 0 < n) : w.ownsRow base e size (.slice a m c) m (xs.take (m * size)) := by
  have hle : m * size ≤ n * size := Nat.mul_le_mul_right _ hm
  refine ⟨by rw [List.length_take, h.1]; omega, ?_⟩
  rcases h.2 with ⟨hv, h0⟩ | ⟨g, cap, cur, hv, hb, hg, h1, h2, h3, h4⟩
  · omega
  · injection hv with hv1 hv2 hv3
    subst hv1 hv3
    exact .inr ⟨g, c, cur, rfl, hb, hg, by omega, h2, h3, by rw [← h4, List.take_take, Nat.min_eq_left hle]⟩
/-- Its ints. -/
def ints (l : List Int) : List Value := l.map (Value.int .i64)
theorem mem_upTo {d : Array Int} : ∀ (m : Nat), (∀ x ∈ Lib.compactUpTo d m, ∃ j, j < m ∧ d[j]! = x) ∧ ∀ j, j < m → d[j]! ∈ Lib.compactUpTo d m
  | 0 => ⟨fun x hx => by simp [Lib.compactUpTo] at hx, fun j hj => by omega⟩
  | m + 1 => by
    obtain ⟨h1, h2⟩ := mem_upTo (d := d) m
    rw [Lib.compactUpTo_succ]
    refine ⟨fun x hx => ?_, fun j hj => ?_⟩
    · rcases List.mem_append.1 hx with hx | hx
      · obtain ⟨j, a, b⟩ := h1 x hx; exact ⟨j, by omega, b⟩
      · split at hx
        · rw [List.mem_singleton] at hx; exact ⟨m, by omega, hx.symm⟩
        · cases hx
    · rcases Nat.lt_or_ge j m with hj' | hj'
      · exact List.mem_append_left _ (h2 j hj')
      · obtain rfl : j = m := by omega
        by_cases hk : Lib.keeps d j = true
        · rw [if_pos hk]; exact List.mem_append_right _ (List.mem_singleton.2 rfl)
        · have hk' : ¬ (j = 0 ∨ d[j]! ≠ d[j - 1]!) := by simpa [Lib.keeps] using hk
          have h0 : j ≠ 0 := fun e => hk' (.inl e)
          have he : d[j]! = d[j - 1]! := Classical.not_not.1 fun e => hk' (.inr e)
          rw [he]
          exact List.mem_append_left _ (h2 (j - 1) (by omega))
theorem mem_tidy (l : List Int) (x : Int) : x ∈ Lib.compact (l.mergeSort fun x y => decide (x ≤ y)) ↔ x ∈ l := by
  rw [← List.mem_mergeSort (le := fun x y : Int => decide (x ≤ y)) (l := l)]
  generalize l.mergeSort (fun x y => decide (x ≤ y)) = k
  obtain ⟨h1, h2⟩ := mem_upTo (d := k.toArray) k.length
  constructor
  · intro hx
    obtain ⟨j, hj, e⟩ := h1 x hx
    rw [← e]
    simp [hj]
  · intro hx
    obtain ⟨j, hj, e⟩ := List.mem_iff_getElem.1 hx
    have := h2 j hj
    have e2 : k.toArray[j]! = x := by simp [hj, e]
    rw [e2] at this
    exact this
theorem up_sorted {d : Array Int} (hs : ∀ i j, i < j → j < d.size → d[i]! ≤ d[j]!) : ∀ (m : Nat), m ≤ d.size → (Lib.compactUpTo d m).Pairwise (· < ·) ∧ ∀ x ∈ Lib.compactUpTo d m, x ≤ d[m - 1]!
  | 0, _ => ⟨by simp [Lib.compactUpTo], fun x hx => by simp [Lib.compactUpTo] at hx⟩
  | m + 1, hm => by
    obtain ⟨h1, h2⟩ := up_sorted hs m (by omega)
    have hle : ∀ x ∈ Lib.compactUpTo d m, x ≤ d[m]! := fun x hx => by
      have hm0 : 0 < m := by
        rcases Nat.eq_zero_or_pos m with q | q
        · subst q; simp [Lib.compactUpTo] at hx
        · exact q
      exact Int.le_trans (h2 x hx) (hs (m - 1) m (by omega) (by omega))
    rw [Lib.compactUpTo_succ]
    by_cases hk : Lib.keeps d m = true
    · rw [if_pos hk]
      refine ⟨List.pairwise_append.2 ⟨h1, by simp, fun x hx y hy => ?_⟩, fun x hx => ?_⟩
      · rw [List.mem_singleton] at hy
        subst hy
        have hk' : m = 0 ∨ d[m]! ≠ d[m - 1]! := by simpa [Lib.keeps] using hk
        rcases hk' with q | q
        · subst q; simp [Lib.compactUpTo] at hx
        · have a := h2 x hx
          have hm0 : 0 < m := by
            rcases Nat.eq_zero_or_pos m with z | z
            · subst z; simp [Lib.compactUpTo] at hx
            · exact z
          have b := hs (m - 1) m (by omega) (by omega)
          have q' : d[m - 1]! ≠ d[m]! := fun e => q e.symm
          omega
      · rcases List.mem_append.1 hx with hx | hx
        · exact hle x hx
        · rw [List.mem_singleton] at hx; subst hx; exact Int.le_refl _
    · rw [if_neg hk, List.append_nil]
      exact ⟨h1, hle⟩
theorem tidy_nodup (l : List Int) : (Lib.compact (l.mergeSort fun x y => decide (x ≤ y))).Nodup := by
  have hs : (l.mergeSort fun x y => decide (x ≤ y)).Pairwise (fun x y => decide (x ≤ y) = true) := List.pairwise_mergeSort (fun a b c h1 h2 => by have := of_decide_eq_true h1; have := of_decide_eq_true h2; exact decide_eq_true (by omega)) (fun a b => by by_cases h : a ≤ b <;> simp [h]; omega) l
  generalize l.mergeSort (fun x y => decide (x ≤ y)) = k at hs
  have hp := (up_sorted (d := k.toArray) (fun i j hij hj => by
    have hj' : j < k.length := by simpa using hj
    have := List.pairwise_iff_getElem.1 hs i j (by omega) hj' hij
    have := of_decide_eq_true this
    simpa [hj', show i < k.length by omega] using this) k.length (by simp)).1
  exact hp.imp (fun h => by omega)
theorem off_own {w w' : World} {g n c : Nat} (hg : w.grownBy w' (some g)) : Kp (fun b => decide ((Value.slice (some ⟨g, 0, none⟩) n c).ownBlock ≠ some b)) w w' :=
  ⟨hg.os, hg.tape, hg.output, hg.size, fun b hlt hp => hg.block b hlt fun e => of_decide_eq_true hp e.symm⟩
theorem sort_walk (base n c : Nat) (a : Option Addr) (l : List Int) (w : World) (h : w.ownsRow base 3 1 (.slice a n c) n (ints l)) (hn : n < 4611686018427387904) :
    Calls Tryd.prog 53 #[.slice a n c] w fun en w' => en = .returned (.tuple #[]) ∧ w'.ownsRow base 3 1 (.slice a n c) n (ints (l.mergeSort fun x y => decide (x ≤ y))) ∧ Kp (fun b => decide ((Value.slice a n c).ownBlock ≠ some b)) w w' := by
  have hll : l.length = n := by have := h.1; unfold ints at this; rw [List.length_map] at this; omega
  subst hll
  rcases h.2 with ⟨hv, h0⟩ | ⟨g, cap, cur, hv, hb, hg, h1, h2, h3, h4⟩
  · have hl : l = [] := List.eq_nil_of_length_eq_zero h0
    subst hl
    refine (Tryd.slices_Sort_int_none a c w).mono ?_
    rintro en w' ⟨rfl, rfl⟩
    exact ⟨rfl, by simpa using h, Kp.refl _ _⟩
  · injection hv with hv1 hv2 hv3
    subst hv1 hv3
    have hH := holds_of_blockI hg (by rw [Nat.mul_one] at h4; exact h4)
    refine (Tryd.slices_Sort_int g 0 c l w hH (lt_of_block hg) hn).mono ?_
    rintro en w' ⟨rfl, q, os, rfl⟩
    exact ⟨rfl, ownsRow_sortedI (List.length_mergeSort _) hb hg h1 h2 h3, off_own (grownBy_sortedI _)⟩
theorem compact_walk (base n c : Nat) (a : Option Addr) (l : List Int) (w : World) (h : w.ownsRow base 3 1 (.slice a n c) n (ints l)) (hn : n < 4611686018427387904) :
    Calls Tryd.prog 54 #[.slice a n c] w fun en w' => en = .returned (.slice a (Lib.compact l).length c) ∧ w'.ownsRow base 3 1 (.slice a (Lib.compact l).length c) (Lib.compact l).length (ints (Lib.compact l)) ∧ Kp (fun b => decide ((Value.slice a n c).ownBlock ≠ some b)) w w' := by
  have hll : l.length = n := by have := h.1; unfold ints at this; rw [List.length_map] at this; omega
  subst hll
  rcases h.2 with ⟨hv, h0⟩ | ⟨g, cap, cur, hv, hb, hg, h1, h2, h3, h4⟩
  · have hl : l = [] := List.eq_nil_of_length_eq_zero h0
    subst hl
    refine (Tryd.slices_Compact_int_empty a c w).mono ?_
    rintro en w' ⟨rfl, rfl⟩
    exact ⟨rfl, h, Kp.refl _ _⟩
  · injection hv with hv1 hv2 hv3
    subst hv1 hv3
    have hH := holds_of_blockI hg (by rw [Nat.mul_one] at h4; exact h4)
    have hle := Lib.compact_length_le l
    refine (Tryd.slices_Compact_int g 0 c l w hH (by omega) h1).mono ?_
    rintro en w' ⟨rfl, q, rfl⟩
    have e := grow_empty (putRow (Value.int .i64) (Sort.ahead w q) g 0 (Lib.compact l ++ List.replicate (l.length - (Lib.compact l).length) 0).toArray)
    rw [← e]
    refine ⟨rfl, ?_, off_own (grownBy_sortedI _)⟩
    by_cases hz : l.length = 0
    · have hl : l = [] := List.eq_nil_of_length_eq_zero hz
      subst hl
      exact ownsRow_sortedI (ss := []) (ts := []) rfl hb hg h1 h2 h3
    · have h5 := ownsRow_sortedI (n := q) (os := #[]) (ss := l) (ts := Lib.compact l ++ List.replicate (l.length - (Lib.compact l).length) 0) (by simp; omega) hb hg h1 h2 h3
      have h6 := own_pop h5 hle (by omega)
      rw [Nat.mul_one, ← List.map_take, List.take_left] at h6
      exact h6
end Types
end Go.Proofs.YtjchplgapaeagaaDoor
