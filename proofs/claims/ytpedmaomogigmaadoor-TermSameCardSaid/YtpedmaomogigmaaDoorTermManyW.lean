/- The walk of layer 4's statement on terms of many nodes. -/
import Derived.Test.YtpedmaomogigmaaDoorTermAwake
import Derived.LoopTactic
namespace Go.Proofs.YtpedmaomogigmaaDoor
open Go.RowKit
set_option linter.unusedVariables false
namespace Term

/-- So many nodes, one in the other. -/
def chainT : Nat → Tm
  | 0 => .node ⟨1, 0, 0, 0, ⟨#[]⟩, ⟨#[]⟩, ⟨#[]⟩⟩ []
  | k + 1 => .node ⟨4, 0, 0, 0, ⟨#[]⟩, ⟨#[]⟩, ⟨#[]⟩⟩ [chainT k]
theorem chain_w : ∀ k, wt (chainT k) = k + 1
  | 0 => by unfold chainT; rw [wt_ks, Tm.ks, wts_nil]
  | k + 1 => by unfold chainT; rw [wt_ks, Tm.ks, wts_cons, wts_nil, chain_w k]
theorem chain_d : ∀ k, depT (chainT k) = k + 1
  | 0 => by unfold chainT; rw [depT_eq, Tm.ks, depK_nil]
  | k + 1 => by unfold chainT; rw [depT_eq, Tm.ks, depK_cons, depK_nil, chain_d k]; omega
theorem chain_o : ∀ k, okT (chainT k) = true
  | 0 => by unfold chainT; rw [okT_eq, Tm.ks, Tm.h, okK_nil]; decide +kernel
  | k + 1 => by
    unfold chainT
    rw [okT_eq, Tm.ks, Tm.h, okK_cons, okK_nil, chain_o k]
    show (nodeB _ 1 && true) = true
    decide +kernel
theorem chain_m (k : Nat) : mayT (chainT k) = decide (k + 1 ≤ 4000) := by unfold mayT; rw [chain_o, chain_w, Bool.and_true]
theorem chain_ws (k : Nat) : wts [chainT k] = k + 1 := by rw [wts_cons, wts_nil, chain_w]
theorem chain_ds (k : Nat) : depK [chainT k] = k + 1 := by rw [depK_cons, depK_nil, chain_d]; omega

/-- A block of eight cells. -/
theorem cells8 {W : World} {N : Nat} {a0 a1 a2 a3 a4 a5 a6 a7 : Value} {ty : TypeId} (h : W.heap[N]? = some (.cells #[a0, a1, a2, a3, a4, a5, a6, a7] ty (0, 0))) :
    (W.cell? ⟨N, 0, none⟩ = some a0 ∧ W.cell? ⟨N, 1, none⟩ = some a1 ∧ W.cell? ⟨N, 2, none⟩ = some a2 ∧ W.cell? ⟨N, 3, none⟩ = some a3 ∧ W.cell? ⟨N, 4, none⟩ = some a4 ∧ W.cell? ⟨N, 5, none⟩ = some a5 ∧ W.cell? ⟨N, 6, none⟩ = some a6 ∧ W.cell? ⟨N, 7, none⟩ = some a7) ∧
    (W.frozen? ⟨N, 0, none⟩ = false ∧ W.frozen? ⟨N, 1, none⟩ = false ∧ W.frozen? ⟨N, 2, none⟩ = false ∧ W.frozen? ⟨N, 3, none⟩ = false ∧ W.frozen? ⟨N, 4, none⟩ = false ∧ W.frozen? ⟨N, 5, none⟩ = false ∧ W.frozen? ⟨N, 6, none⟩ = false ∧ W.frozen? ⟨N, 7, none⟩ = false) := by
  simp [World.cell?, World.frozen?, h]
/-- Two worlds that read alike, with the same block laid in both. -/
theorem Reads.alloc {V W : World} (h : Reads V W) (hs : V.heap.size = W.heap.size) (O : Obj) : Reads (V.alloc O) (W.alloc O) := by
  intro a v hv
  have hlt := World.block_lt_of_cell? _ _ hv
  have hz : (V.alloc O).heap.size = V.heap.size + 1 := by simp
  by_cases he : a.block = V.heap.size
  · rw [← hv]
    apply World.cell?_of_block
    have e1 := heap_alloc_new V O
    have e2 := heap_alloc_new W O
    rw [he, e1, hs, e2]
  · have hl : a.block < V.heap.size := by omega
    have h1 : V.cell? a = some v := by
      rw [← hv]
      exact (World.cell?_of_block (w := V) (Below.heap_alloc V O a.block hl)).symm
    rw [World.cell?_of_block (w := W) (Below.heap_alloc W O a.block (by omega))]
    exact h a v h1
theorem Kids.reads {w W : World} {p : Option Addr} {ts : List Tm} (h : Kids w p ts) (hb : Reads w W) : Kids W p ts := by
  induction h with
  | nokids p => exact .nokids p
  | atkids b o ts q c hh hc hl hk ih => exact .atkids b o ts q c hh (fun i hi j v hv => hb _ _ (hc i hi j v hv)) hl (fun i hi => ih i hi)
theorem TmIs.reads {w W : World} {h : Hd} {p : Option Addr} {l c : Nat} {t : Tm} (k : TmIs w h p l c t) (hb : Reads w W) : TmIs W h p l c t := ⟨k.head, k.len, k.ok, k.cap, k.kids.reads hb⟩

/-- The box N holds the chain of k, whose nodes don't lie in it. -/
def ChainIs (w : World) (N k : Nat) (kd : Int) (p : Option Addr) (l c : Nat) (W : World) : Prop :=
  ∃ V : World, TmIs V ⟨kd, 0, 0, 0, ⟨#[]⟩, ⟨#[]⟩, ⟨#[]⟩⟩ p l c (chainT k) ∧ Reads V W ∧ (∀ a v, V.cell? a = some v → a.block ≠ N) ∧ V.heap.size = W.heap.size ∧
    W.heap[N]? = some (.cells #[.int .u8 kd, .int .u8 0, .int .i64 0, .int .i64 0, .string ⟨#[]⟩, .string ⟨#[]⟩, .string ⟨#[]⟩, .slice p l c] 26 (0, 0)) ∧ Below w.heap.size w W ∧ w.heap.size ≤ N
theorem ok_kind {k : Int} (h : 0 ≤ k ∧ k ≤ 255) : HdOk ⟨k, 0, 0, 0, ⟨#[]⟩, ⟨#[]⟩, ⟨#[]⟩⟩ := ok_small h (by decide) (by decide)
theorem chain_start (w : World) : ChainIs w w.heap.size 0 1 none 0 0 (w.alloc (.cells #[.int .u8 1, .int .u8 0, .int .i64 0, .int .i64 0, .string ⟨#[]⟩, .string ⟨#[]⟩, .string ⟨#[]⟩, .slice none 0 0] 26)) := by
  have hno : ∀ a v, (w.alloc (.cells #[] 26)).cell? a = some v → a.block ≠ w.heap.size := by
    intro a v hv e
    unfold World.cell? at hv
    rw [e, heap_alloc_new w (.cells #[] 26)] at hv
    simp at hv
  refine ⟨w.alloc (.cells #[] 26), ⟨rfl, rfl, ok_kind (by omega), ⟨Nat.le_refl _, by unfold maxLen; omega⟩, .nokids _⟩, fun a v hv => ?_, hno, by simp, heap_alloc_new _ _, (Below.refl _ _).alloc (Nat.le_refl _) _, Nat.le_refl _⟩
  have hlt := World.block_lt_of_cell? _ _ hv
  have hl : a.block < w.heap.size := by have := hno a v hv; simp at hlt; omega
  rw [World.cell?_of_block (w := w) (Below.heap_alloc w _ a.block hl)]
  rw [World.cell?_of_block (w := w) (Below.heap_alloc w _ a.block hl)] at hv
  exact hv
/-- The eight stores of a round. -/
def set8 (W : World) (N : Nat) (kd : Int) (p : Option Addr) (l c : Nat) : World :=
  (((((((W.setCell ⟨N, 0, none⟩ (.int .u8 kd)).setCell ⟨N, 1, none⟩ (.int .u8 0)).setCell ⟨N, 2, none⟩ (.int .i64 0)).setCell ⟨N, 3, none⟩ (.int .i64 0)).setCell ⟨N, 4, none⟩ (.string ⟨#[]⟩)).setCell ⟨N, 5, none⟩ (.string ⟨#[]⟩)).setCell ⟨N, 6, none⟩ (.string ⟨#[]⟩)).setCell ⟨N, 7, none⟩ (.slice p l c)
theorem chain_step {w W : World} {N k : Nat} {kd : Int} {p : Option Addr} {l c : Nat} (h : ChainIs w N k kd p l c W) :
    ChainIs w N (k + 1) 4 (some ⟨W.heap.size, 0, none⟩) 1 1 ((set8 W N 4 (some ⟨W.heap.size, 0, none⟩) 1 1).alloc (.cells #[.int .u8 kd, .int .u8 0, .int .i64 0, .int .i64 0, .string ⟨#[]⟩, .string ⟨#[]⟩, .string ⟨#[]⟩, .slice p l c] 26)) := by
  obtain ⟨V, hT, hR, hN, hz, hh, hb, hw⟩ := h
  have hNl := lt_of_block hh
  have hz8 : ∀ q, (set8 W N 4 q 1 1).heap.size = W.heap.size := fun q => by simp [set8, World.setCell]
  have hr8 : ∀ q, Reads V (set8 W N 4 q 1 1) := fun q a v hv => by
    have hne := hN a v hv
    have : (set8 W N 4 q 1 1).heap[a.block]? = W.heap[a.block]? := by
      unfold set8
      rw [Below.heap_setCell _ _ _ _ hne, Below.heap_setCell _ _ _ _ hne, Below.heap_setCell _ _ _ _ hne, Below.heap_setCell _ _ _ _ hne, Below.heap_setCell _ _ _ _ hne, Below.heap_setCell _ _ _ _ hne, Below.heap_setCell _ _ _ _ hne, Below.heap_setCell _ _ _ _ hne]
    rw [World.cell?_of_block this]
    exact hR a v hv
  have hh8 : ∀ q, (set8 W N 4 q 1 1).heap[N]? = some (.cells #[.int .u8 4, .int .u8 0, .int .i64 0, .int .i64 0, .string ⟨#[]⟩, .string ⟨#[]⟩, .string ⟨#[]⟩, .slice q 1 1] 26 (0, 0)) := fun q => by
    simp [set8, World.setCell, Array.getElem?_modify, hh]
  have hb8 : ∀ q, Below w.heap.size w (set8 W N 4 q 1 1) := fun q => by
    unfold set8
    exact (((((((hb.setCell (by exact hw) _).setCell (by exact hw) _).setCell (by exact hw) _).setCell (by exact hw) _).setCell (by exact hw) _).setCell (by exact hw) _).setCell (by exact hw) _).setCell (by exact hw) _
  refine ⟨V.alloc (.cells #[.int .u8 kd, .int .u8 0, .int .i64 0, .int .i64 0, .string ⟨#[]⟩, .string ⟨#[]⟩, .string ⟨#[]⟩, .slice p l c] 26), ⟨rfl, rfl, ok_kind (by omega), ⟨Nat.le_refl _, by unfold maxLen; omega⟩, kids_one hT _ _ hz.symm⟩, (hr8 _).alloc (by rw [hz8, hz]) _, fun a v hv e => ?_, ?_, ?_, (hb8 _).alloc (by rw [hz8]; exact hb.size) _, hw⟩
  · have hl : a.block < V.heap.size := by omega
    rw [World.cell?_of_block (w := V) (Below.heap_alloc V _ a.block hl)] at hv
    exact hN a v hv e
  · have h1 : ∀ (X : World) (O : Obj), (X.alloc O).heap.size = X.heap.size + 1 := fun X O => by simp
    rw [h1, h1, hz8, hz]
  · rw [Below.heap_alloc _ _ _ (by rw [hz8]; exact hNl)]
    exact hh8 _
theorem ChainIs.below {w W W' : World} {N k : Nat} {kd : Int} {p : Option Addr} {l c : Nat} (h : ChainIs w N k kd p l c W) (hb : Below W.heap.size W W') :
    TmIs W' ⟨kd, 0, 0, 0, ⟨#[]⟩, ⟨#[]⟩, ⟨#[]⟩⟩ p l c (chainT k) ∧ W'.heap[N]? = some (.cells #[.int .u8 kd, .int .u8 0, .int .i64 0, .int .i64 0, .string ⟨#[]⟩, .string ⟨#[]⟩, .string ⟨#[]⟩, .slice p l c] 26 (0, 0)) ∧ Below w.heap.size w W' := by
  obtain ⟨V, hT, hR, hN, hz, hh, hb0, hw⟩ := h
  exact ⟨hT.reads (hR.trans (Reads.of_below hb)), (hb.block N (lt_of_block hh)).trans hh, hb0.trans (hb.mono hb0.size)⟩

set_option maxRecDepth 10000 in
set_option maxHeartbeats 6400000 in
theorem many_walk (a : Int) (w : World) (h0 : 0 ≤ a) (h1 : a ≤ 255) (hkw : Words.KwLaid w) :
    Calls Tryd.prog 6 #[.int .u8 a] w fun e w' => e = .returned (.bool true) ∧ Below w.heap.size w w' := by
  have hst := chain_start w
  have HST := Lib.hid hst; have HKW := Lib.hid hkw
  have hm : 0 ≤ a % 4 ∧ a % 4 ≤ 3 := by omega
  obtain ⟨hm0, hm1⟩ := hm
  clear hst hkw
  go_enter Tryd.func6, Tryd.ntmps6
  go_wp2_with (fail)
  go_loopw [4] (fun i wr => ∃ (k : Nat) (kd : Int) (p : Option Addr) (l c : Nat), (k : Int) ≤ 3998 + a % 4 ∧ i = .int .i64 k ∧ Hid (ChainIs w w.heap.size k kd p l c wr)) (fun i _ => (4010 - intOf i).toNat)
  case atStart => exact ⟨0, 1, none, 0, 0, by omega, rfl, HST⟩
  case round =>
    obtain ⟨k, kd, p, l, c, hk, rfl, HC⟩ := hrel
    obtain ⟨hT, hh, hb⟩ := HC.out.below (Below.refl _ _)
    have hNl := lt_of_block hh
    obtain ⟨⟨c0, c1, c2, c3, c4, c5, c6, c7⟩, f0, f1, f2, f3, f4, f5, f6, f7⟩ := cells8 hh
    have HT := Lib.hid hT; have HB := Lib.hid hb; have HH := Lib.hid hh
    clear hT hb hh
    by_cases hlt : (k : Int) < 3998 + a % 4
    · have hs := chain_step HC.out
      have HS := Lib.hid hs
      clear hs
      go_wp2_with (fail)
      go_roundw
      case rel => exact ⟨k + 1, 4, _, 1, 1, by omega, by go_num, HS⟩
      case measure => simp [intOf]; omega
    · have hke : (k : Int) + 1 = 3999 + a % 4 := by omega
      have hS := fun (q : Option Addr) (W : World) hk => size_walk [chainT k] q 1 1 W rfl (by unfold maxLen; omega) hk (by rw [chain_ws]; omega)
      have hD := fun (q : Option Addr) (W : World) hk => depth_walk (wts [chainT k]) [chainT k] q 1 1 W (Nat.le_refl _) (by rw [chain_ws]; omega) rfl (by unfold maxLen; omega) hk
      have hM := fun (W : World) hT hk => may_walk (chainT k) ⟨kd, 0, 0, 0, ⟨#[]⟩, ⟨#[]⟩, ⟨#[]⟩⟩ p l c W hT hk
      rw [chain_ws, show ((k + 1 : Nat) : Int) = 3999 + a % 4 from by omega] at hS
      rw [chain_ds, show ((k + 1 : Nat) : Int) = 3999 + a % 4 from by omega] at hD
      rw [chain_m, show decide (k + 1 ≤ 4000) = decide (a % 4 ≤ 1) from decide_eq_decide.2 (by omega)] at hM
      have HS := Lib.hid hS; have HD := Lib.hid hD; have HM := Lib.hid hM
      clear hS hD hM hke hk
      have hkeep : ∀ W', Below wr.heap.size wr W' → TmIs W' ⟨kd, 0, 0, 0, ⟨#[]⟩, ⟨#[]⟩, ⟨#[]⟩⟩ p l c (chainT k) ∧ W'.heap[w.heap.size]? = some (.cells #[.int .u8 kd, .int .u8 0, .int .i64 0, .int .i64 0, .string ⟨#[]⟩, .string ⟨#[]⟩, .string ⟨#[]⟩, .slice p l c] 26 (0, 0)) ∧ Below w.heap.size w W' := fun W' hb => HC.out.below hb
      have HKEEP := Lib.hid hkeep
      clear hkeep
      go_wp2_with (fail)
      refine (HS.out _ _ (kids_one HT.out 26 _ rfl)).mono ?_
      rintro e w1 ⟨rfl, hb1⟩
      have hb1' := below_row (Below.refl wr.heap.size wr) hb1 (Nat.le_refl _)
      obtain ⟨ht1, hh1, _⟩ := HKEEP.out w1 hb1'
      have HB1 := Lib.hid hb1'; have HT1 := Lib.hid ht1
      clear hb1 hb1' ht1 c0 c1 c2 c3 c4 c5 c6 c7 f0 f1 f2 f3 f4 f5 f6 f7
      obtain ⟨⟨c0, c1, c2, c3, c4, c5, c6, c7⟩, _⟩ := cells8 hh1
      clear hh1
      go_wp2_with (fail)
      refine (HD.out _ _ (kids_one HT1.out 26 _ rfl)).mono ?_
      rintro e w2 ⟨rfl, hb2⟩
      have hb2' := below_row HB1.out hb2 HB1.out.size
      obtain ⟨ht2, hh2, hw2⟩ := HKEEP.out w2 hb2'
      have HB2 := Lib.hid hb2'; have HT2 := Lib.hid ht2; have HW2 := Lib.hid hw2
      clear hb2 hb2' ht2 hw2 c0 c1 c2 c3 c4 c5 c6 c7
      obtain ⟨⟨c0, c1, c2, c3, c4, c5, c6, c7⟩, _⟩ := cells8 hh2
      clear hh2
      go_wp2_with (fail)
      refine (HM.out _ HT2.out (HKW.out.below HW2.out)).mono ?_
      rintro e w3 ⟨rfl, hb3⟩
      have hb3' := below_then HB2.out hb3 HB2.out.size
      have hw3 := (HKEEP.out w3 hb3').2.2
      have HW3 := Lib.hid hw3
      clear hb3 hb3' hw3 c0 c1 c2 c3 c4 c5 c6 c7
      by_cases hle : a % 4 ≤ 1
      · rw [decide_eq_true hle]
        go_wp2_with (fail)
        refine (awake_walk _ (HKW.out.below HW3.out)).mono ?_
        rintro e w4 ⟨rfl, hb4⟩
        have HW4 := Lib.hid (below_then HW3.out hb4 HW3.out.size)
        clear hb4
        go_wp2
        go_ret
        exact ⟨rfl, HW4.out⟩
      · rw [decide_eq_false hle]
        have hgt : 1 < a % 4 := by omega
        have hd : decide (3999 + a % 4 ≤ 4000) = false := decide_eq_false (by omega)
        go_wp2_with (fail)
        refine (awake_walk _ (HKW.out.below HW3.out)).mono ?_
        rintro e w4 ⟨rfl, hb4⟩
        have HW4 := Lib.hid (below_then HW3.out hb4 HW3.out.size)
        clear hb4
        go_wp2
        go_ret
        exact ⟨rfl, HW4.out⟩
end Term
end Go.Proofs.YtpedmaomogigmaaDoor
