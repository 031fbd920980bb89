/-Types with regions that lie one behind the other; a row of them that grows. The walk of slices.Clone at atoms. A type with other regions: what memory holds on the way. (Written by wip/tools/rtswap.py.) -/
import Derived.Test.YtabegjpledammaaGreatDoorGC08
import Derived.OwnWalk
import Derived.Laws.AppendOwn
import Derived.Laws.AppendOwnNone
import Derived.Laws.OwnMore
import Derived.Test.YtabegjpledammaaGreatDoorGC03
import Derived.Maps.AppendAt
import Derived.Lib.SliceRun
import Derived.Test.YtabegjpledammaaGreatDoorGC09
import Derived.Test.YtabegjpledammaaGreatDoorGC06
import Derived.Test.YtabegjpledammaaGreatDoorGC14
namespace Go.Proofs.YtabegjpledammaaGreatDoor
open Go.RowKit
set_option linter.unusedVariables false
set_option linter.unusedSimpArgs false
namespace Rt
open Effect (At AtOk AtsAt Rd ofA lt_of_block heap_alloc_new)
open Types (Reads veil veil_to veil_at veil_own veil_seen from_ seen_iff)

theorem AtsAt.reads {w W : World} {p : Option Addr} {l : List At} (h : AtsAt w p l) (hb : Reads w W) : AtsAt W p l := by
  rcases h with h | ⟨b, o, hp, h⟩
  · exact .inl h
  · exact .inr ⟨b, o, hp, fun i hi => ⟨hb _ _ (h i hi).1, hb _ _ (h i hi).2.1, hb _ _ (h i hi).2.2⟩⟩
theorem EffIs.reads {w W : World} {pe : Option Addr} {ne ce : Nat} {l : List At} (h : EffIs w pe ne ce l) (hb : Reads w W) : EffIs W pe ne ce l := ⟨⟨h.rd.len, AtsAt.reads h.rd.at_ hb, h.rd.ok⟩, h.cap⟩
theorem Kids.reads' {w W : World} {p : Option Addr} {ts : List RT} (h : Kids w p ts) (hb : Reads w W) : Kids W p ts := by
  induction h with
  | nokids p => exact .nokids p
  | atkids b o ts q c qe ce hh hc hl he hk ih => exact .atkids b o ts q c qe ce hh (fun i hi j v hv => hb _ _ (hc i hi j v hv)) hl (fun i hi => (he i hi).reads hb) (fun i hi => ih i hi)
theorem RtIs.reads' {w W : World} {h : Hd} {pe : Option Addr} {ne ce : Nat} {p : Option Addr} {l c : Nat} {t : RT} (k : RtIs w h pe ne ce p l c t) (hb : Reads w W) : RtIs W h pe ne ce p l c t := ⟨k.head, k.elen, k.len, k.ok, k.eff.reads hb, k.cap, k.kids.reads' hb⟩
/-- Types by value, one behind the other, their kids in the memory w. -/
def Flat (w : World) : List Value → List RT → Prop
  | xs, [] => xs = []
  | xs, t :: ts => ∃ qe ce q c ys, xs = rcells t.h qe t.h.e.length ce q t.ks.length c ++ ys ∧ RtIs w t.h qe t.h.e.length ce q t.ks.length c t ∧ Flat w ys ts
theorem Flat.append {w : World} : ∀ {ts us : List RT} {xs ys : List Value}, Flat w xs ts → Flat w ys us → Flat w (xs ++ ys) (ts ++ us)
  | [], us, xs, ys, h, k => by
    have : xs = [] := h
    subst this
    exact k
  | t :: ts, us, xs, ys, ⟨qe, ce, q, c, zs, he, hT, h⟩, k => ⟨qe, ce, q, c, zs ++ ys, by rw [he, List.append_assoc], hT, h.append k⟩
theorem Flat.one {w : World} {t : RT} {h : Hd} {pe : Option Addr} {ne ce : Nat} {q : Option Addr} {l c : Nat} (hT : RtIs w h pe ne ce q l c t) : Flat w (rcells h pe ne ce q l c) [t] := by
  have h0 := hT
  obtain ⟨h1, h2, h3, h4, h5, h6, h7⟩ := hT
  subst h1 h2 h3
  exact ⟨pe, ce, q, c, [], by simp, h0, rfl⟩
theorem Flat.get {w : World} : ∀ {ts : List RT} {xs : List Value}, Flat w xs ts → ∀ i, i < ts.length → ∃ qe ce q c, RtIs w (tget ts i).h qe (tget ts i).h.e.length ce q (tget ts i).ks.length c (tget ts i) ∧ ∀ j v, (rcells (tget ts i).h qe (tget ts i).h.e.length ce q (tget ts i).ks.length c)[j]? = some v → xs[i * 4 + j]? = some v
  | [], xs, _, i, hi => by simp at hi
  | t :: ts, xs, ⟨qe, ce, q, c, zs, he, hT, h⟩, 0, _ => by
    refine ⟨qe, ce, q, c, hT, fun j v hv => ?_⟩
    rw [he, Nat.zero_mul, Nat.zero_add, List.getElem?_append_left ?_]
    · exact hv
    · rcases Nat.lt_or_ge j (rcells t.h qe t.h.e.length ce q t.ks.length c).length with h | h
      · exact h
      · rw [List.getElem?_eq_none (by exact h)] at hv; cases hv
  | t :: ts, xs, ⟨qe, ce, q, c, zs, he, hT, h⟩, i + 1, hi => by
    obtain ⟨qe', ce', q', c', h1, h2⟩ := h.get i (by simpa using hi)
    refine ⟨qe', ce', q', c', h1, fun j v hv => ?_⟩
    rw [he, List.getElem?_append_right (by simp [rcells]; omega)]
    have e : (i + 1) * 4 + j - (rcells t.h qe t.h.e.length ce q t.ks.length c).length = i * 4 + j := by simp [rcells]; omega
    rw [e]
    exact h2 j v hv
theorem Flat.reads {w W : World} (hb : Reads w W) : ∀ {ts : List RT} {xs : List Value}, Flat w xs ts → Flat W xs ts
  | [], xs, h => h
  | t :: ts, xs, ⟨qe, ce, q, c, zs, he, hT, h⟩ => ⟨qe, ce, q, c, zs, he, hT.reads' hb, h.reads hb⟩
/-- A row of types whose kids are there. -/
theorem kids_of_flat {W : World} {b : Nat} {xs : List Value} {ts : List RT} (hc : ∀ j u, xs[j]? = some u → W.cell? ⟨b, j, none⟩ = some u) (hf : Flat W xs ts) : Kids W (some ⟨b, 0, none⟩) ts := by
  have each : ∀ i, ∃ r : Option Addr × Nat × Option Addr × Nat, i < ts.length → RtIs W (tget ts i).h r.1 (tget ts i).h.e.length r.2.1 r.2.2.1 (tget ts i).ks.length r.2.2.2 (tget ts i) ∧ ∀ j v, (rcells (tget ts i).h r.1 (tget ts i).h.e.length r.2.1 r.2.2.1 (tget ts i).ks.length r.2.2.2)[j]? = some v → xs[i * 4 + j]? = some v := by
    intro i
    by_cases hi : i < ts.length
    · obtain ⟨qe, ce, q, c, h1, h2⟩ := hf.get i hi
      exact ⟨(qe, ce, q, c), fun _ => ⟨h1, h2⟩⟩
    · exact ⟨(none, 0, none, 0), fun h => absurd h hi⟩
  obtain ⟨R, hR⟩ := Classical.axiomOfChoice each
  refine .atkids b 0 ts (fun i => (R i).2.2.1) (fun i => (R i).2.2.2) (fun i => (R i).1) (fun i => (R i).2.1) (fun i hi => (hR i hi).1.ok) (fun i hi j v hv => ?_) (fun i hi => (hR i hi).1.cap) (fun i hi => (hR i hi).1.eff) (fun i hi => (hR i hi).1.kids)
  rw [Nat.zero_add]
  exact hc _ _ ((hR i hi).2 j v hv)
theorem infoRt : (Tryz.prog.info? 25).map (fun i => (i.zero, i.size, i.bytes)) = some (some (.agg #[.int .u8 0, .int .i64 0, .slice none 0 0, .slice none 0 0]), 4, 64) := by kernel_rfl
/-- A row of types that grows: its cells, and its types' kids and effects, which lie in none of these. -/
def RowR (B : Nat) (v : Value) (ts : List RT) (W : World) : Prop := ∃ xs, W.ownsRow B 25 4 v ts.length xs ∧ Flat (veil (Types.seen B v) W) xs ts
theorem RowR.nil (B : Nat) (W : World) : RowR B (.slice none 0 0) [] W := ⟨[], World.ownsRow_nil _ _ _ _, rfl⟩
theorem own_belowR {W W' : World} {B n : Nat} {v : Value} {xs : List Value} (h : W.ownsRow B 25 4 v n xs) (hb : Below W.heap.size W W') : W'.ownsRow B 25 4 v n xs := Effect.own_below h hb
theorem RowR.below {B : Nat} {v : Value} {ts : List RT} {W W' : World} (h : RowR B v ts W) (hb : Below W.heap.size W W') : RowR B v ts W' := by
  obtain ⟨xs, h1, h2⟩ := h
  exact ⟨xs, own_belowR h1 hb, h2.reads (veil_to fun b hbl hp => ⟨hp, hb.block b hbl⟩)⟩
theorem RowR.slice {B : Nat} {v : Value} {ts : List RT} {W : World} (h : RowR B v ts W) : ∃ a c, v = .slice a ts.length c ∧ c ≤ maxLen ∧ ts.length ≤ c := by
  obtain ⟨xs, h1, _⟩ := h; exact Effect.own_slice h1
theorem RowR.off {B : Nat} {v : Value} {ts : List RT} {W W' : World} (h : RowR B v ts W) (hb : ∀ b, B ≤ b → W'.heap[b]? = W.heap[b]?) : RowR B v ts W' := by
  obtain ⟨xs, h1, h2⟩ := h
  refine ⟨xs, ⟨h1.1, h1.2.imp id ?_⟩, h2.reads (veil_to fun b hbl hp => ⟨hp, hb b (seen_iff.1 hp).1⟩)⟩
  rintro ⟨g, cap, cur, rfl, hg, hh, r⟩
  exact ⟨g, cap, cur, rfl, hg, (hb g hg).trans hh, r⟩
/-- One type more. -/
theorem row_step {B M : Nat} {v v' : Value} {W W3 : World} {ts : List RT} {xs : List Value} {t : RT} {hd : Hd} {pe : Option Addr} {ne ce : Nat} {q : Option Addr} {l c : Nat}
    (ho : W.ownsRow B 25 4 v ts.length xs) (hf : Flat (veil (Types.seen B v) W) xs ts) (hT : RtIs (veil (from_ M) W) hd pe ne ce q l c t) (hM : B ≤ M) (hg : ∀ g, v.ownBlock = some g → g < M)
    (ho3 : W3.ownsRow B 25 4 v' (ts.length + 1) (xs ++ rcells hd pe ne ce q l c)) (hgr : W.grownBy W3 v.ownBlock) (hat : v'.ownBlock = v.ownBlock ∨ v'.ownBlock = some W.heap.size) : RowR B v' (ts ++ [t]) W3 := by
  refine ⟨xs ++ rcells hd pe ne ce q l c, by rw [List.length_append]; exact ho3, ?_⟩
  have key : ∀ b, b < W.heap.size → B ≤ b → v.ownBlock ≠ some b → Types.seen B v' b = true ∧ W3.heap[b]? = W.heap[b]? := fun b hb h1 h2 => by
    refine ⟨seen_iff.2 ⟨h1, ?_⟩, hgr.block b hb (fun e => h2 e.symm)⟩
    rcases hat with e | e <;> rw [e]
    · exact h2
    · intro e2; injection e2 with e2; omega
  refine (hf.reads (veil_to fun b hb hp => ?_)).append (Flat.one (hT.reads' (veil_to fun b hb hp => ?_)))
  · obtain ⟨h1, h2⟩ := seen_iff.1 hp
    exact key b hb h1 h2
  · have h1 : M ≤ b := of_decide_eq_true hp
    exact key b hb (by omega) (fun e => by have := hg b e; omega)
theorem RowR.kids {B : Nat} {a : Option Addr} {c : Nat} {ts : List RT} {W : World} (h : RowR B (.slice a ts.length c) ts W) : Kids (veil (from_ B) W) a ts := by
  obtain ⟨xs, h1, h2⟩ := h
  by_cases h0 : ts.length = 0
  · rw [List.length_eq_zero_iff.1 h0]; exact .nokids _
  · rcases h1.2 with ⟨_, h0'⟩ | ⟨g, cap, cur, hv, hg, hh, h3, h4, h5, h6⟩
    · omega
    · injection hv with hv1 hv2 hv3
      subst hv1
      have hin : Reads (veil (Types.seen B (.slice (some ⟨g, 0, none⟩) ts.length c)) W) (veil (from_ B) W) := veil_to fun b hb hp => ⟨decide_eq_true (seen_iff.1 hp).1, rfl⟩
      refine kids_of_flat (fun j u hu => ?_) (h2.reads hin)
      have hc := h1.cells (g := g) rfl j u hu
      rw [Addr.add_lit] at hc
      rw [World.cell?_of_block (veil_at (decide_eq_true hg))]
      simpa using hc
/-- An effect that is a row of one's own, seen alone. -/
theorem eff_of_row {B n c : Nat} {W : World} {a : Option Addr} {l : List At} (h : Effect.Row B W (.slice a n c) l) (hok : ∀ x ∈ l, x.x.size ≤ maxLen) : EffIs (veil (from_ B) W) a n c l := by
  have hn : n = l.length := h.at.1
  subst hn
  have hv : (veil (from_ B) W).ownsRow B 69 3 (.slice a l.length c) l.length (Effect.flat l) := veil_own h fun k hk => decide_eq_true (h.lt k hk).1
  obtain ⟨a', c', he, h1, h2⟩ := Effect.own_slice hv
  injection he with e1 e2 e3
  subst e3
  exact ⟨⟨rfl, AtsAt.of_own rfl hv, hok⟩, h2, h1⟩
end Rt
end Go.Proofs.YtabegjpledammaaGreatDoor
namespace Go.Proofs.YtabegjpledammaaGreatDoor
open Go.RowKit Go.Lib
set_option linter.unusedVariables false
set_option linter.unusedSimpArgs false
namespace Effect

set_option maxRecDepth 10000 in
set_option maxHeartbeats 3200000 in
theorem clone_walk {n c : Nat} {a : Option Addr} {l : List At} {w : World} (h : Rd w n a l) (hn : n ≤ 100000) :
    Calls Tryz.prog 49 #[.slice a n c] w fun e w' => ∃ a' m c', e = .returned (.slice a' m c') ∧ m ≤ n ∧ Row w.heap.size w' (.slice a' m c') l ∧ Below w.heap.size w w' := by
  obtain ⟨i0, hi, hz0, hz2, hz3⟩ := info_parts
  have HI := Lib.hid hi; have HZ0 := Lib.hid hz0; have HZ2 := Lib.hid hz2; have HZ3 := Lib.hid hz3
  have H := Lib.hid h
  clear hi hz0 hz2 hz3 h
  have hnil := run_eql_slice_nil (P := Tryz.prog) w 22 69 a n c 0 0 rfl
  cases a with
  | none =>
    have hl : l = [] := by
      rcases H.out.at_ with h | ⟨_, _, h, _⟩
      · exact h
      · cases h
    subst hl
    have h0 : n = 0 := by have := H.out.len; simpa using this.symm
    subst h0
    have hnil2 : (binOp .eql 22 (.slice none 0 c) (.slice none 0 0)).run Tryz.prog w = .ok (.bool true) w := hnil
    clear hnil
    go_enter Tryz.func49, Tryz.ntmps49
    go_wp2_with (fail)
    refine bodyPost_ret (v := .slice none 0 0) (by simp [results, Tryz.results49, go_sem]) rfl ?_
    exact ⟨none, 0, 0, rfl, Nat.le_refl _, Row.nil _ _, Below.refl _ _⟩
  | some ad =>
    have hlen := H.out.len
    have hnews : ∀ j u, (flat l)[j]? = some u → w.cell? (ad.add j) = some u := by
      intro j u hu
      have hj : j < (flat l).length := by
        rcases Nat.lt_or_ge j (flat l).length with h | h
        · exact h
        · rw [List.getElem?_eq_none h] at hu; cases hu
      rw [flat_len] at hj
      have hi : j / 3 < l.length := by omega
      obtain ⟨b, o, hb, e0, e1, e2⟩ := H.out.at_.get (j / 3) hi
      injection hb with hb
      subst hb
      have hf := flat_get l (j / 3) hi (j % 3) (by omega)
      rw [show j / 3 * 3 + j % 3 = j by omega, hu] at hf
      rw [Addr.add_lit]
      have h3 : j % 3 = 0 ∨ j % 3 = 1 ∨ j % 3 = 2 := by omega
      rcases h3 with h3 | h3 | h3
      · rw [h3] at hf; rw [show o + j = o + j / 3 * 3 by omega, e0]; exact hf.symm
      · rw [h3] at hf; rw [show o + j = o + j / 3 * 3 + 1 by omega, e1]; exact hf.symm
      · rw [h3] at hf; rw [show o + j = o + j / 3 * 3 + 2 by omega, e2]; exact hf.symm
    have hnews2 := fun O : Obj => fun j u hu => ((al_new (W := w) O).cell (World.block_lt_of_cell? w _ (hnews j u hu))).trans (hnews j u hu)
    have hone : ∀ u ∈ flat l, u.oneCell' = true := flat_one l
    have HN := Lib.hid hnews2; have HO := Lib.hid hone; have HL := Lib.hid hlen
    have hown : (w.alloc (.cells #[] 69)).ownsRow w.heap.size 69 3 (.slice (some ⟨w.heap.size, 0, none⟩) 0 0) 0 [] := ⟨rfl, .inr ⟨w.heap.size, 0, #[], rfl, Nat.le_refl _, heap_alloc_new w _, Nat.le_refl _, by unfold maxLen; omega, rfl, rfl⟩⟩
    have HW := Lib.hid hown
    have hnil2 : (binOp .eql 22 (.slice (some ad) n c) (.slice none 0 0)).run Tryz.prog w = .ok (.bool false) w := hnil
    clear hnews hnews2 hone hlen hown hnil
    go_enter Tryz.func49, Tryz.ntmps49
    go_wp2_with (at_builtin; refine wpList_append_own_at _ rfl (.tmp 5) (.tmp 6) 22 rfl w.heap.size 69 i0 _ 3 32 Tryz.underlying22 HI.out HZ0.out HZ2.out HZ3.out rfl (by omega) (.slice (some ⟨w.heap.size, 0, none⟩) 0 0) 0 [] rfl HW.out ad n c (flat l) rfl (by rw [flat_len, HL.out]) (HN.out _) HO.out (by unfold maxLen; omega) (by omega) (by simp) ?_; intro v' w3 hown hgr hnil hat; obtain ⟨a3, c3, rfl, -, -⟩ := own_slice hown; have HT3 := Lib.hid hown; have HB3 := Lib.hid ((al_new (W := w) (.cells #[] 69)).grown hgr (by simp) fun g hg => (HW.out.lt g hg).1); clear hown hgr hnil hat)
    go_ret
    have ht := HT3.out
    rw [Nat.zero_add, List.nil_append] at ht
    refine ⟨a3, n, c3, rfl, Nat.le_refl _, ?_, HB3.out⟩
    show World.ownsRow _ _ _ _ _ l.length _
    rw [HL.out]
    exact ht
end Effect
end Go.Proofs.YtabegjpledammaaGreatDoor
namespace Go.Proofs.YtabegjpledammaaGreatDoor
open Go.RowKit
set_option linter.unusedVariables false
set_option linter.unusedSimpArgs false
namespace Rt
open Effect (At AtOk AtsAt Rd RdI ofA ret_i64 ret_bool lt_of_block heap_alloc_new turnI swapA nget)
open Types (veil veil_to veil_at from_ seen_iff)

/-- The region in place of another one. -/
theorem swapped_walk {x : Int} {f to : List Int} {nf cf nt ct : Nat} {af at_ : Option Addr} {w : World} (hf : RdI w nf af f) (ht : RdI w nt at_ to) (hnf : nf ≤ 100000) (hnt : nt ≤ 100000) :
    Calls Tryz.prog 47 #[.int .i64 x, .slice af nf cf, .slice at_ nt ct] w fun e w' => e = .returned (.int .i64 (turnI x f to)) ∧ w' = w := by
  have HT := Lib.hid ht
  have HIX := Lib.hid (Effect.index_walk (c := cf) hf hnf x)
  have hir := Effect.idx_range f x
  have hfl := hf.len
  have htu : turnI x f to = if 0 ≤ Lib.idxOf f x ∧ Lib.idxOf f x < to.length then nget to (Lib.idxOf f x).toNat else x := rfl
  obtain ⟨iv, hiv⟩ : ∃ iv, Lib.idxOf f x = iv := ⟨_, rfl⟩
  rw [hiv] at HIX hir htu
  rw [ht.len] at htu
  have HTU := Lib.hid htu
  have hivr : -1 ≤ iv ∧ iv ≤ 100000 := by
    rcases hir with h1 | ⟨k, h1, h2, _⟩
    · omega
    · omega
  clear hf ht hir hfl htu hiv
  go_enter Tryz.func47, Tryz.ntmps47
  go_wp2_with (fail)
  refine HIX.out.mono ?_
  rintro e w2 ⟨rfl, rfl⟩
  by_cases h0 : 0 ≤ iv
  · by_cases h1 : iv < nt
    · have hkt : iv.toNat < to.length := by rw [HT.out.len]; omega
      obtain ⟨bt, ot, rfl, q0⟩ := HT.out.get iv.toNat hkt
      have hr := HTU.out
      rw [if_pos ⟨h0, h1⟩] at hr
      obtain ⟨ki, hki⟩ : ∃ ki : Nat, iv = ki := ⟨iv.toNat, by omega⟩
      subst hki
      rw [Int.toNat_natCast] at q0 hr
      have HR := Lib.hid hr
      generalize nget to ki = r at *
      clear hr hkt hivr HTU
      go_wp2_with (fail)
      go_ret
      exact ⟨ret_i64 HR.out.symm, rfl⟩
    · have hr := HTU.out
      rw [if_neg fun h => h1 h.2] at hr
      have HR := Lib.hid hr
      clear hr HTU
      go_wp2_with (fail)
      go_ret
      exact ⟨ret_i64 HR.out.symm, rfl⟩
  · have hr := HTU.out
    rw [if_neg fun h => h0 h.1] at hr
    have HR := Lib.hid hr
    clear hr HTU
    go_wp2_with (fail)
    go_ret
    exact ⟨ret_i64 HR.out.symm, rfl⟩

/-- The types made so far, in a row of one's own; the boxes: what is read, the result, what is made; its effect. -/
structure SwapAt (w : World) (h : Hd) (pe : Option Addr) (ne ce : Nat) (p : Option Addr) (l c : Nat) (hd : Hd) (qe : Option Addr) (ne' ce' : Nat) (us : List RT) (j : Nat) (a : Option Addr) (c0 : Nat) (W : World) : Prop where
  below : Below w.heap.size w W
  box : W.heap[w.heap.size]? = some (.cells #[.int .u8 h.k, .int .i64 h.r, .slice pe ne ce, .slice p l c] 25 (0, 0))
  res : W.heap[w.heap.size + 1]? = some (.cells #[.int .u8 0, .int .i64 0, .slice none 0 0, .slice none 0 0] 25 (0, 0))
  out : W.heap[w.heap.size + 2]? = some (.cells #[.int .u8 hd.k, .int .i64 hd.r, .slice qe ne' ce', .slice a j c0] 25 (0, 0))
  row : RowR (w.heap.size + 3) (.slice a j c0) us W
  len : us.length = j
  eff : EffIs (veil (Types.seen (w.heap.size + 3) (.slice a j c0)) W) qe ne' ce' hd.e
theorem alloc3 (w : World) (O0 O1 O2 : Obj) : Below w.heap.size w (((w.alloc O0).alloc O1).alloc O2) ∧ (((w.alloc O0).alloc O1).alloc O2).heap[w.heap.size]? = some O0 ∧ (((w.alloc O0).alloc O1).alloc O2).heap[w.heap.size + 1]? = some O1 ∧ (((w.alloc O0).alloc O1).alloc O2).heap[w.heap.size + 2]? = some O2 := by
  refine ⟨(box_new _).trans (((box_new _).trans ((box_new _).mono (by simp))).mono (by simp)), ?_, ?_, ?_⟩
  · exact ((box_new _).block _ (by simp; omega)).trans (((box_new _).block _ (by simp)).trans (heap_alloc_new _ _))
  · have := heap_alloc_new (w.alloc O0) O1
    rw [show (w.alloc O0).heap.size = w.heap.size + 1 from by simp] at this
    exact ((box_new _).block _ (by simp)).trans this
  · have := heap_alloc_new ((w.alloc O0).alloc O1) O2
    rw [show ((w.alloc O0).alloc O1).heap.size = w.heap.size + 2 from by simp] at this
    exact this
/-- One more. -/
theorem swap_step {w : World} {h : Hd} {pe : Option Addr} {ne ce : Nat} {p : Option Addr} {l c : Nat} {hd : Hd} {qe : Option Addr} {ne' ce' : Nat} {us : List RT} {j : Nat} {a : Option Addr} {c0 : Nat} {W w2 w3 : World} {xs : List Value} {h2 : Hd} {qe2 : Option Addr} {ne2 ce2 : Nat} {q2 : Option Addr} {l2 c2 M : Nat} {u : RT} {O : Obj} {a3 : Option Addr} {c3 : Nat}
    (hA : SwapAt w h pe ne ce p l c hd qe ne' ce' us j a c0 W) (hb2 : Below W.heap.size W w2) (ho : (w2.alloc O).ownsRow (w.heap.size + 3) 25 4 (.slice a j c0) j xs) (hf : Flat (veil (Types.seen (w.heap.size + 3) (.slice a j c0)) (w2.alloc O)) xs us)
    (hT : RtIs (veil (from_ M) w2) h2 qe2 ne2 ce2 q2 l2 c2 u) (hM : W.heap.size ≤ M) (ho3 : w3.ownsRow (w.heap.size + 3) 25 4 (.slice a3 (j + 1) c3) (j + 1) (xs ++ rcells h2 qe2 ne2 ce2 q2 l2 c2))
    (hg : (w2.alloc O).grownBy w3 (Value.slice a j c0).ownBlock) (hat : (Value.slice a3 (j + 1) c3).ownBlock = (Value.slice a j c0).ownBlock ∨ (Value.slice a3 (j + 1) c3).ownBlock = some (w2.alloc O).heap.size) :
    (w3.cell? ⟨w.heap.size + 2, 3, none⟩ = some (.slice a j c0) ∧ w3.frozen? ⟨w.heap.size + 2, 3, none⟩ = false) ∧ SwapAt w h pe ne ce p l c hd qe ne' ce' (us ++ [u]) (j + 1) a3 c3 (w3.setCell ⟨w.heap.size + 2, 3, none⟩ (.slice a3 (j + 1) c3)) := by
  have hout := lt_of_block hA.out
  have hW2 := hb2.size
  have hsz : (w2.alloc O).heap.size = w2.heap.size + 1 := by simp
  have hge : ∀ g, (Value.slice a j c0).ownBlock = some g → w.heap.size + 3 ≤ g ∧ g < W.heap.size := fun g hgg => by
    obtain ⟨ys, h1, _⟩ := hA.row
    rw [hA.len] at h1
    exact h1.lt g hgg
  have hstay : ∀ b, b < W.heap.size → (Value.slice a j c0).ownBlock ≠ some b → w3.heap[b]? = W.heap[b]? := fun b hb hn => by
    rw [hg.block b (by omega) (fun e => hn e.symm)]
    exact ((box_new (w := w2) O).block b (by omega)).trans (hb2.block b (by omega))
  have hlow : ∀ b, b < w.heap.size + 3 → w3.heap[b]? = W.heap[b]? := fun b hb => hstay b (by omega) (fun e => by have := hge b e; omega)
  have hout3 := (hlow (w.heap.size + 2) (by omega)).trans hA.out
  have hoth : ∀ b, b ≠ w.heap.size + 2 → (w3.setCell ⟨w.heap.size + 2, 3, none⟩ (.slice a3 (j + 1) c3)).heap[b]? = w3.heap[b]? := fun b hb => Below.heap_setCell _ _ _ _ hb
  have hrow : RowR (w.heap.size + 3) (.slice a3 (j + 1) c3) (us ++ [u]) w3 := by
    have hlen := hA.len
    refine row_step (v := .slice a j c0) (W := w2.alloc O) (M := M) (hd := h2) (pe := qe2) (ne := ne2) (ce := ce2) (q := q2) (l := l2) (c := c2) (by rw [hlen]; exact ho) hf (hT.reads' (veil_to fun b hb hp => ⟨hp, (box_new (w := w2) O).block b hb⟩)) (by omega) (fun g hgg => by have := hge g hgg; omega) (by rw [hlen]; exact ho3) hg hat
  have hbel : Below w.heap.size w w3 := by
    have h1 : Below w.heap.size w (w2.alloc O) := below_then hA.below (hb2.alloc (by omega) O) hA.below.size
    exact h1.grown hg h1.size fun g hgg => by have := hge g hgg; omega
  refine ⟨⟨by simp [World.cell?, hout3], by simp [World.frozen?, hout3]⟩, hbel.setCell (p := ⟨w.heap.size + 2, 3, none⟩) (by show w.heap.size ≤ w.heap.size + 2; omega) _, ?_, ?_, ?_, RowR.off hrow (fun b hb => hoth b (by omega)), by rw [List.length_append, hA.len]; rfl, ?_⟩
  · exact (hoth _ (by omega)).trans ((hlow _ (by omega)).trans hA.box)
  · exact (hoth _ (by omega)).trans ((hlow _ (by omega)).trans hA.res)
  · simp [World.setCell, Array.getElem?_modify, hout3]
  · refine hA.eff.reads (veil_to fun b hb hp => ?_)
    obtain ⟨h1, h2⟩ := seen_iff.1 hp
    refine ⟨seen_iff.2 ⟨h1, ?_⟩, (hoth b (by omega)).trans (hstay b hb h2)⟩
    rcases hat with e | e <;> rw [e]
    · exact h2
    · intro e2; injection e2 with e2; omega
def SwapEnd (hd : Hd) (t : RT) (l : Nat) (w : World) (e : Ending) (w' : World) : Prop :=
  ∃ qe ce q c, e = .returned (.agg #[.int .u8 hd.k, .int .i64 hd.r, .slice qe hd.e.length ce, .slice q l c]) ∧ RtIs (veil (from_ w.heap.size) w') hd qe hd.e.length ce q l c t ∧ Below w.heap.size w w'
/-- The end: in new memory alone. -/
theorem swap_end {w : World} {h : Hd} {pe : Option Addr} {ne ce : Nat} {p : Option Addr} {l c : Nat} {hd : Hd} {qe : Option Addr} {ne' ce' : Nat} {us : List RT} {j : Nat} {a : Option Addr} {c0 : Nat} {W W' : World} (hok : HdOk hd)
    (hA : SwapAt w h pe ne ce p l c hd qe ne' ce' us j a c0 W) (hoth : ∀ b, b ≠ w.heap.size + 1 → W'.heap[b]? = W.heap[b]?) (hb : Below w.heap.size w W') :
    SwapEnd hd (.node hd us) j w (.returned (.agg #[.int .u8 hd.k, .int .i64 hd.r, .slice qe ne' ce', .slice a j c0])) W' := by
  have hlen := hA.len
  obtain ⟨a', c', he, hc1, hc2⟩ := hA.row.slice
  injection he with e1 e2 e3
  subst e1 e3
  have hkk : Kids (veil (from_ (w.heap.size + 3)) W) a us := by
    have := hA.row
    rw [← hlen] at this
    exact this.kids
  have hel := hA.eff.rd.len
  have heff : EffIs (veil (from_ w.heap.size) W') qe ne' ce' hd.e := hA.eff.reads (veil_to fun b hbl hp => by
    obtain ⟨h1, h2⟩ := seen_iff.1 hp
    exact ⟨decide_eq_true (by omega), hoth b (by omega)⟩)
  subst hel
  refine ⟨qe, ce', a, c0, rfl, ⟨rfl, rfl, hlen, hok, heff, ⟨by rw [← hlen]; exact hc2, hc1⟩, hkk.reads' (veil_to fun b hbl hp => ?_)⟩, hb⟩
  have hp' : w.heap.size + 3 ≤ b := of_decide_eq_true hp
  exact ⟨decide_eq_true (by omega), hoth b (by omega)⟩
theorem new4 {w : World} {N : Nat} {h : Hd} {pe : Option Addr} {ne ce : Nat} {q : Option Addr} {l c : Nat} {ty : TypeId} (hN : N = w.heap.size) (j : Nat) : ∀ u, (rcells h pe ne ce q l c)[j]? = some u → (w.alloc (.cells #[.int .u8 h.k, .int .i64 h.r, .slice pe ne ce, .slice q l c] ty)).cell? ((⟨N, 0, none⟩ : Addr).add j) = some u := by
  intro u hu
  subst hN
  rw [Addr.add_lit, Nat.zero_add, World.cell?_alloc_mark]
  simpa [rcells] using hu
theorem cells_oneR (h : Hd) (pe : Option Addr) (ne ce : Nat) (q : Option Addr) (l c : Nat) : ∀ u ∈ rcells h pe ne ce q l c, u.oneCell' = true := by
  intro u hu
  simp [rcells] at hu
  rcases hu with rfl | rfl | rfl | rfl <;> rfl
theorem set4_other (W : World) (N : Nat) (a b c d : Value) {i : Nat} (hi : i ≠ N) : ((((W.setCell ⟨N, 0, none⟩ a).setCell ⟨N, 1, none⟩ b).setCell ⟨N, 2, none⟩ c).setCell ⟨N, 3, none⟩ d).heap[i]? = W.heap[i]? := by
  rw [Below.heap_setCell _ _ _ _ hi, Below.heap_setCell _ _ _ _ hi, Below.heap_setCell _ _ _ _ hi, Below.heap_setCell _ _ _ _ hi]
theorem set4_below {B N : Nat} {W : World} (a b c d : Value) (hN : B ≤ N) : Below B W ((((W.setCell ⟨N, 0, none⟩ a).setCell ⟨N, 1, none⟩ b).setCell ⟨N, 2, none⟩ c).setCell ⟨N, 3, none⟩ d) :=
  ((((Below.refl B W).setCell (p := ⟨N, 0, none⟩) hN _).setCell (p := ⟨N, 1, none⟩) hN _).setCell (p := ⟨N, 2, none⟩) hN _).setCell (p := ⟨N, 3, none⟩) hN _
theorem at_ok {f to : List Int} (hto : ∀ y ∈ to, -9223372036854775808 ≤ y ∧ y ≤ 9223372036854775807) {e : List At} (he : ∀ x ∈ e, AtOk x) : ∀ x ∈ ofA ((ofA e).map (swapA f to)), AtOk x := by
  intro x hx
  obtain ⟨y, hy, rfl⟩ := List.mem_map.1 ((Effect.mem_of _ _).1 hx).1
  have h1 := he y ((Effect.mem_of _ _).1 hy).1
  unfold swapA
  split
  · exact h1
  · exact ⟨h1.k, Effect.turn_ok h1.r hto, h1.x⟩
theorem swapH_ok {f to : List Int} (hto : ∀ y ∈ to, -9223372036854775808 ≤ y ∧ y ≤ 9223372036854775807) {h : Hd} (hh : HdOk h) : HdOk (swapH f to h) := by
  unfold swapH
  split
  · exact hh
  · exact ⟨hh.k, Effect.turn_ok hh.r hto, at_ok hto hh.e⟩
end Rt
end Go.Proofs.YtabegjpledammaaGreatDoor
