/- The walk of the program's copied: types whose nodes are all new. -/
import Derived.Test.YtgcnibipikondaaDoorTyProg
import Derived.Maps.AppendAt
namespace Go.Proofs.YtgcnibipikondaaDoor
open Go.RowKit
set_option linter.unusedVariables false
namespace Types

theorem own_slice {w : World} {base e size n : Nat} {v : Value} {xs : List Value} (h : w.ownsRow base e size v n xs) : ∃ a c, v = .slice a n c ∧ c ≤ maxLen ∧ n ≤ c := by
  rcases h.2 with ⟨hv, h0⟩ | ⟨g, cap, _, hv, _, _, h1, h2, _⟩
  · subst h0; exact ⟨none, 0, hv, by unfold maxLen; omega, Nat.le_refl _⟩
  · exact ⟨_, cap, hv, h2, h1⟩
theorem own_at {w : World} {base e size n c : Nat} {a : Option Addr} {xs : List Value} (h : w.ownsRow base e size (.slice a n c) n xs) (hn : 0 < n) : ∃ g, a = some ⟨g, 0, none⟩ ∧ base ≤ g := by
  rcases h.2 with ⟨_, h0⟩ | ⟨g, cap, _, hv, hg, _⟩
  · omega
  · injection hv with hv; exact ⟨g, hv, hg⟩
theorem row_cell {w : World} {base e size n c g : Nat} {xs : List Value} (h : w.ownsRow base e size (.slice (some ⟨g, 0, none⟩) n c) n xs) {j : Nat} {u : Value} (hu : xs[j]? = some u) : w.cell? ⟨g, j, none⟩ = some u := by
  have := h.cells (g := g) rfl j u hu
  rw [Addr.add_lit] at this
  simpa using this
/-- From block M on. -/
def from_ (M : Nat) (i : Nat) : Bool := decide (M ≤ i)
/-- From block B on, but the row's own. -/
def seen (B : Nat) (v : Value) (i : Nat) : Bool := decide (B ≤ i ∧ v.ownBlock ≠ some i)
theorem seen_iff {B : Nat} {v : Value} {i : Nat} : seen B v i = true ↔ B ≤ i ∧ v.ownBlock ≠ some i := by unfold seen; exact decide_eq_true_iff
/-- A row of types that grows: its cells, and its types' kids, which lie in none of these. -/
def RowT (B : Nat) (v : Value) (ts : List Ty) (W : World) : Prop := ∃ xs, W.ownsRow B 24 3 v ts.length xs ∧ Flat (veil (seen B v) W) xs ts
theorem RowT.nil (B : Nat) (W : World) : RowT B (.slice none 0 0) [] W := ⟨[], World.ownsRow_nil _ _ _ _, rfl⟩
theorem own_below {W W' : World} {B n : Nat} {v : Value} {xs : List Value} (h : W.ownsRow B 24 3 v n xs) (hb : Below W.heap.size W W') : W'.ownsRow B 24 3 v n xs := by
  refine ⟨h.1, h.2.imp id ?_⟩
  rintro ⟨g, cap, cur, rfl, hg, hh, r⟩
  exact ⟨g, cap, cur, rfl, hg, (hb.block g (lt_of_block hh)).trans hh, r⟩
theorem RowT.below {B : Nat} {v : Value} {ts : List Ty} {W W' : World} (h : RowT B v ts W) (hb : Below W.heap.size W W') : RowT B v ts W' := by
  obtain ⟨xs, h1, h2⟩ := h
  exact ⟨xs, own_below h1 hb, h2.reads (veil_to fun b hbl hp => ⟨hp, hb.block b hbl⟩)⟩
theorem RowT.slice {B : Nat} {v : Value} {ts : List Ty} {W : World} (h : RowT B v ts W) : ∃ a c, v = .slice a ts.length c ∧ c ≤ maxLen ∧ ts.length ≤ c := by
  obtain ⟨xs, h1, _⟩ := h; exact own_slice h1
/-- One type more. -/
theorem row_step {B M : Nat} {v v' : Value} {W W3 : World} {ts : List Ty} {xs : List Value} {t : Ty} {hd : Hd} {q : Option Addr} {l c : Nat}
    (ho : W.ownsRow B 24 3 v ts.length xs) (hf : Flat (veil (seen B v) W) xs ts) (hT : TyIs (veil (from_ M) W) hd q l c t) (hM : B ≤ M) (hg : ∀ g, v.ownBlock = some g → g < M)
    (ho3 : W3.ownsRow B 24 3 v' (ts.length + 1) (xs ++ tcells hd q l c)) (hgr : W.grownBy W3 v.ownBlock) (hat : v'.ownBlock = v.ownBlock ∨ v'.ownBlock = some W.heap.size) : RowT B v' (ts ++ [t]) W3 := by
  refine ⟨xs ++ tcells hd q l c, by rw [List.length_append]; exact ho3, ?_⟩
  have key : ∀ b, b < W.heap.size → B ≤ b → v.ownBlock ≠ some b → seen B v' b = true ∧ W3.heap[b]? = W.heap[b]? := fun b hb h1 h2 => by
    refine ⟨seen_iff.2 ⟨h1, ?_⟩, hgr.block b hb (fun e => h2 e.symm)⟩
    rcases hat with e | e <;> rw [e]
    · exact h2
    · intro e2; injection e2 with e2; omega
  refine (hf.reads (veil_to fun b hb hp => ?_)).append (Flat.one (hT.reads' (veil_to fun b hb hp => ?_)))
  · obtain ⟨h1, h2⟩ := seen_iff.1 hp
    exact key b hb h1 h2
  · have h1 : M ≤ b := of_decide_eq_true hp
    exact key b hb (by omega) (fun e => by have := hg b e; omega)
theorem RowT.kids {B : Nat} {a : Option Addr} {c : Nat} {ts : List Ty} {W : World} (h : RowT B (.slice a ts.length c) ts W) : Kids (veil (from_ B) W) a ts := by
  obtain ⟨xs, h1, h2⟩ := h
  by_cases h0 : ts.length = 0
  · rw [List.length_eq_zero_iff.1 h0]; exact .nokids _
  · obtain ⟨g, rfl, hg⟩ := own_at h1 (by omega)
    have hin : Reads (veil (seen B (.slice (some ⟨g, 0, none⟩) ts.length c)) W) (veil (from_ B) W) := veil_to fun b hb hp => ⟨decide_eq_true (seen_iff.1 hp).1, rfl⟩
    refine kids_of_flat (fun j u hu => ?_) (h2.reads hin)
    have hc := row_cell h1 hu
    rw [World.cell?_of_block (veil_at (decide_eq_true hg))]
    exact hc

/-- The step of one round: the world in which the row is appended to. -/
theorem copy_step {w wr w2 : World} {t : Ty} {ts : List Ty} {q q2 : Option Addr} {c' c2 j c0 : Nat} {a : Option Addr} (hR : RowT w.heap.size (.slice a j c0) (ts.take j) wr) (hS : Below w.heap.size w wr) (hj : j < ts.length) (ht : tget ts j = t) (ho : HdOk t.h)
    (hb2 : Below (wr.alloc (.cells #[.int .u8 t.h.k, .int .i64 t.h.v, .slice q t.ks.length c'] 24)).heap.size (wr.alloc (.cells #[.int .u8 t.h.k, .int .i64 t.h.v, .slice q t.ks.length c'] 24)) w2)
    (hk2 : Kids (veil (from_ (wr.alloc (.cells #[.int .u8 t.h.k, .int .i64 t.h.v, .slice q t.ks.length c'] 24)).heap.size) w2) q2 t.ks) (hq : t.ks.length ≤ c2 ∧ c2 ≤ maxLen) (O : Obj) :
    ∃ xs, ((w2.setCell ⟨wr.heap.size, 2, none⟩ (.slice q2 t.ks.length c2)).alloc O).ownsRow w.heap.size 24 3 (.slice a j c0) j xs ∧ Below w.heap.size w ((w2.setCell ⟨wr.heap.size, 2, none⟩ (.slice q2 t.ks.length c2)).alloc O) ∧
      ∀ v' w3, w3.ownsRow w.heap.size 24 3 v' (j + 1) (xs ++ tcells t.h q2 t.ks.length c2) → World.grownBy ((w2.setCell ⟨wr.heap.size, 2, none⟩ (.slice q2 t.ks.length c2)).alloc O) w3 (Value.slice a j c0).ownBlock →
        (v'.ownBlock = (Value.slice a j c0).ownBlock ∨ v'.ownBlock = some ((w2.setCell ⟨wr.heap.size, 2, none⟩ (.slice q2 t.ks.length c2)).alloc O).heap.size) → RowT w.heap.size v' (ts.take (j + 1)) w3 ∧ Below w.heap.size w w3 := by
  have hsw : (wr.alloc (.cells #[.int .u8 t.h.k, .int .i64 t.h.v, .slice q t.ks.length c'] 24)).heap.size = wr.heap.size + 1 := by simp
  have hB2 : Below wr.heap.size wr w2 := (box_new _).trans (hb2.mono (by simp))
  have hs2 : wr.heap.size + 1 ≤ w2.heap.size := by have := hb2.size; omega
  have hlen : (ts.take j).length = j := by rw [List.length_take]; omega
  have hsz : ((w2.setCell ⟨wr.heap.size, 2, none⟩ (.slice q2 t.ks.length c2)).alloc O).heap.size = w2.heap.size + 1 := by simp [World.setCell]
  have hblk : ∀ b, b < w2.heap.size → b ≠ wr.heap.size → ((w2.setCell ⟨wr.heap.size, 2, none⟩ (.slice q2 t.ks.length c2)).alloc O).heap[b]? = w2.heap[b]? := fun b hb hn =>
    (Below.heap_alloc _ O b (by simp [World.setCell]; exact hb)).trans (Below.heap_setCell _ _ _ _ hn)
  have hB4 : Below wr.heap.size wr ((w2.setCell ⟨wr.heap.size, 2, none⟩ (.slice q2 t.ks.length c2)).alloc O) := (hB2.setCell (p := ⟨wr.heap.size, 2, none⟩) (Nat.le_refl _) _).alloc (by simp [World.setCell]; omega) O
  have hB0 := below_then hS hB4 hS.size
  obtain ⟨xs, h1, h2⟩ := hR.below hB4
  rw [hlen] at h1
  refine ⟨xs, h1, hB0, fun v' w3 ho3 hgr hat => ?_⟩
  have hge : ∀ g, (Value.slice a j c0).ownBlock = some g → w.heap.size ≤ g ∧ g < wr.heap.size := by
    obtain ⟨ys, k1, _⟩ := hR
    intro g hg
    exact k1.lt g hg
  have hT : TyIs (veil (from_ (wr.heap.size + 1)) ((w2.setCell ⟨wr.heap.size, 2, none⟩ (.slice q2 t.ks.length c2)).alloc O)) t.h q2 t.ks.length c2 t := by
    refine ⟨rfl, rfl, ho, hq, ?_⟩
    rw [hsw] at hk2
    exact hk2.reads' (veil_to fun b hb hp => ⟨hp, hblk b hb (by have : wr.heap.size + 1 ≤ b := of_decide_eq_true hp; omega)⟩)
  have hst := row_step (v := .slice a j c0) (v' := v') (W := (w2.setCell ⟨wr.heap.size, 2, none⟩ (.slice q2 t.ks.length c2)).alloc O) (W3 := w3) (M := wr.heap.size + 1) (ts := ts.take j) (by rw [hlen]; exact h1) h2 hT (by have := hS.size; omega) (fun g hg => by have := hge g hg; omega) (by rw [hlen]; exact ho3) hgr hat
  rw [take_tget ts j hj, ht]
  exact ⟨hst, hB0.grown hgr hB0.size (fun g hg => (hge g hg).1)⟩

/-- How it ends: in new memory alone. -/
def CopyEnd (ts : List Ty) (l : Nat) (w : World) (e : Ending) (w' : World) : Prop :=
  ∃ q c, e = .returned (.slice q l c) ∧ l ≤ c ∧ c ≤ maxLen ∧ Kids (veil (from_ w.heap.size) w') q ts ∧ Below w.heap.size w w'

theorem new_cells {w : World} {N : Nat} {h : Hd} {q : Option Addr} {l c : Nat} {ty : TypeId} (hN : N = w.heap.size) (j : Nat) : ∀ u, (tcells h q l c)[j]? = some u → (w.alloc (.cells #[.int .u8 h.k, .int .i64 h.v, .slice q l c] ty)).cell? ((⟨N, 0, none⟩ : Addr).add j) = some u := by
  intro u hu
  subst hN
  rw [Addr.add_lit, Nat.zero_add, World.cell?_alloc_mark]
  simpa [tcells] using hu
theorem cells_one (h : Hd) (q : Option Addr) (l c : Nat) : ∀ u ∈ tcells h q l c, u.oneCell' = true := by
  intro u hu
  simp [tcells] at hu
  rcases hu with rfl | rfl | rfl <;> rfl
set_option maxRecDepth 10000 in
set_option maxHeartbeats 6400000 in
theorem copied_walk : ∀ (m : Nat) (ts : List Ty) (p : Option Addr) (l d : Nat) (w : World), wts ts ≤ m → wts ts ≤ 100000 → ts.length = l → l ≤ 100000 → Kids w p ts →
    Calls Tryd.prog 36 #[.slice p l d] w (CopyEnd ts l w) := by
  obtain ⟨i0, hi, hz0, hz1, hz2⟩ := info_parts infoType
  have HI := Lib.hid hi; have HZ0 := Lib.hid hz0; have HZ1 := Lib.hid hz1; have HZ2 := Lib.hid hz2
  clear hi hz0 hz1 hz2
  intro m
  induction m using Nat.strongRecOn with
  | _ m ih =>
    intro ts p l d w hm hmm hl hlm hk
    have HM := Lib.hid (And.intro hm hmm); have HL := Lib.hid hl; have HK := Lib.hid hk; have IH := Lib.hid ih
    clear hm hl hk ih hmm
    go_enter Tryd.func36, Tryd.ntmps36
    go_wp2_with (fail)
    go_loopw [3, 5, 8] (fun own _ i wr => ∃ (j c : Nat) (a : Option Addr), j ≤ l ∧ i = .int .i64 j ∧ own = .slice a j c ∧ Hid (RowT w.heap.size (.slice a j c) (ts.take j) wr) ∧ Hid (Below w.heap.size w wr)) (fun _ _ i _ => l - (intOf i).toNat)
    case atStart => exact ⟨0, 0, none, Nat.zero_le _, rfl, rfl, Lib.hid (by rw [List.take_zero]; exact RowT.nil _ _), Lib.hid (Below.refl _ _)⟩
    case round =>
      obtain ⟨j, c0, a, hj, rfl, rfl, HR, HS⟩ := hrel
      by_cases hlt : j < l
      · have hjk : j < ts.length := by rw [HL.out]; exact hlt
        obtain ⟨b, o, q, c', rfl, hkid, e0, e1, e2⟩ := (HK.out.stay HS.out).get j hjk
        have hwm : wts (tget ts j).ks < wts ts := by have h1 := wts_get hjk; have h2 := wt_ks (tget ts j); omega
        have hkl : (tget ts j).ks.length ≤ 100000 := by
          have : ∀ us : List Ty, us.length ≤ wts us := by
            intro us
            induction us with
            | nil => rw [wts_nil]; simp
            | cons u us ih => rw [wts_cons, List.length_cons]; have := wt_pos u; omega
          have h1 := this (tget ts j).ks
          have := HM.out.2
          omega
        have hcp := fun O : Obj => IH.out (wts (tget ts j).ks) (by have := HM.out.1; omega) (tget ts j).ks q _ c' (wr.alloc O) (Nat.le_refl _) (by have := HM.out.2; omega) rfl hkl (hkid.below (box_new O)).kids
        have hok := hkid.ok
        generalize htt : tget ts j = t at *
        have HJK := Lib.hid hjk; have HCP := Lib.hid hcp; have HTT := Lib.hid htt; have HOK := Lib.hid hok
        clear hjk hkid hwm hcp htt hok hkl
        go_wp2_with (fail)
        refine (HCP.out _).mono ?_
        rintro e w2 ⟨q2, c2, rfl, hq1, hq2, hk2, hb2⟩
        have hX := (hb2.block wr.heap.size (by simp)).trans (heap_alloc_new wr _)
        have f2 : w2.frozen? ⟨wr.heap.size, 2, none⟩ = false := by simp [World.frozen?, hX]
        obtain ⟨b0, b1, b2⟩ := box3 (N := wr.heap.size) rfl hb2
        have hst := fun O => copy_step HR.out HS.out HJK.out HTT.out HOK.out hb2 hk2 ⟨hq1, hq2⟩ O
        have HX := Lib.hid hX; have HB2 := Lib.hid hb2; have HK2 := Lib.hid hk2; have HQ := Lib.hid (And.intro hq1 hq2); have HST := Lib.hid hst
        clear hX hb2 hk2 e0 e1 e2 hq1 hq2 hst
        have hjm : j ≤ 100000 := by omega
        go_wp2_with (at_builtin; obtain ⟨xs, hown, hbel, hnext⟩ := HST.out (.cells #[.int .u8 t.h.k, .int .i64 t.h.v, .slice q2 t.ks.length c2] 24); refine wpList_append_own_at _ rfl (.tmp 16) (.tmp 18) 22 rfl w.heap.size 24 i0 _ 3 40 Tryd.underlying22 HI.out HZ0.out HZ1.out HZ2.out rfl (by decide) (.slice a j c0) j xs rfl hown ⟨w2.heap.size, 0, none⟩ 1 1 (tcells t.h q2 t.ks.length c2) rfl rfl (new_cells (by simp [World.setCell])) (cells_one _ _ _ _) (by unfold maxLen; omega) (by omega) hbel.size ?_; intro v' w3 hown3 hgrow3 _ hat3; obtain ⟨hr3, hb3⟩ := hnext v' w3 hown3 hgrow3 hat3; obtain ⟨a3, c3, rfl, hc3, hn3⟩ := own_slice hown3; have HR3 := Lib.hid hr3; have HB3 := Lib.hid hb3; clear hown3 hgrow3 hat3 hr3 hb3 hown hnext hbel)
        go_roundw
        case rel => exact ⟨j + 1, c3, a3, by omega, by go_num, rfl, HR3, HB3⟩
        case measure => simp [intOf]; omega
      · obtain rfl : j = l := by omega
        have hr := HR.out
        rw [List.take_of_length_le (by rw [HL.out]; exact Nat.le_refl _)] at hr
        obtain ⟨a', c', he, hc1, hc2⟩ := hr.slice
        injection he with he1 he2 he3
        subst he1 he3
        rw [he2] at hr
        have hkk := hr.kids
        have HE := Lib.hid (And.intro hkk (And.intro hc1 hc2))
        clear hr hkk hc1 hc2 he2
        go_wp2_with (fail)
        go_ret
        exact ⟨_, _, rfl, by have := HE.out.2.2; rw [HL.out] at this; exact this, HE.out.2.1, HE.out.1, HS.out⟩
end Types
end Go.Proofs.YtgcnibipikondaaDoor
