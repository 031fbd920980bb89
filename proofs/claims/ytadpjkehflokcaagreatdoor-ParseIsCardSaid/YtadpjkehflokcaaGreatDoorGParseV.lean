/-The document's parser: parts, a row of terms between words. (Written by wip/tools/parts.py.) The document's parser: an expression: what its five ways share. (Written by wip/tools/expr.py.) -/
import Derived.Test.YtadpjkehflokcaaGreatDoorGParseU
import Derived.Deep.LoopGhost
import Derived.OwnWalk
namespace Go.Proofs.YtadpjkehflokcaaGreatDoor
open Go.RowKit
set_option linter.unusedVariables false
set_option linter.unusedSimpArgs false
namespace Parse
open Token (Tok tel ToksAt)
open Term (Tm Hd TmIs Flat tcells veil Reads HdOk Kids)
open Words (str_no str_yes sel)
theorem infoTm : (Tryz.prog.info? 29).map (fun i => (i.zero, i.size, i.bytes)) = some (some (.agg #[.int .u8 0, .int .u8 0, .int .i64 0, .int .i64 0, .string ⟨#[]⟩, .string ⟨#[]⟩, .string ⟨#[]⟩, .slice none 0 0]), 8, 96) := by kernel_rfl
theorem newT_cells {w : World} {N : Nat} {h : Hd} {q : Option Addr} {l c : Nat} {ty : TypeId} (hN : N = w.heap.size) (j : Nat) : ∀ u, (tcells h q l c)[j]? = some u → (w.alloc (.cells #[.int .u8 h.k, .int .u8 h.op, .int .i64 h.pl, .int .i64 h.n, .string h.name, .string h.arg, .string h.exn, .slice q l c] ty)).cell? ((⟨N, 0, none⟩ : Addr).add j) = some u := by
  intro u hu
  subst hN
  rw [Addr.add_lit, Nat.zero_add, World.cell?_alloc_mark]
  simpa [tcells] using hu
theorem cellsT_one (h : Hd) (q : Option Addr) (l c : Nat) : ∀ u ∈ tcells h q l c, u.oneCell' = true := by
  intro u hu
  simp [tcells] at hu
  rcases hu with rfl | rfl | rfl | rfl | rfl | rfl | rfl | rfl <;> rfl
theorem RowM.put {B N : Nat} {v : Value} {ts : List Tm} {W W' : World} {cs : Array Value} {ty : TypeId} (h : RowM B v ts W) (hp : Put1 N cs ty W W') (hN : N < B) : RowM B v ts W' := by
  obtain ⟨xs, h1, h2⟩ := h
  refine ⟨xs, ⟨h1.1, h1.2.imp id ?_⟩, h2.reads (Term.veil_to fun b hb hq => ⟨hq, hp.off b (by have := (seenT_iff.1 hq).1; omega)⟩)⟩
  rintro ⟨g, cap, cur, rfl, hg, hh, r⟩
  exact ⟨g, cap, cur, rfl, hg, (hp.off g (by omega)).trans hh, r⟩
theorem RowM.drew {B : Nat} {v : Value} {ts : List Tm} {W : World} (h : RowM B v ts W) : RowM B v ts W.drew := by
  obtain ⟨xs, h1, h2⟩ := h
  refine ⟨xs, ⟨h1.1, h1.2.imp id ?_⟩, h2.reads (show Reads (veil (seenT B v) W) (veil (seenT B v) W.drew) from Term.veil_to fun b hb hq => ⟨hq, rfl⟩)⟩
  rintro ⟨g, cap, cur, rfl, hg, hh, r⟩
  exact ⟨g, cap, cur, rfl, hg, hh, r⟩
theorem RowM.lt {B : Nat} {v : Value} {ts : List Tm} {W : World} (h : RowM B v ts W) : ∀ g, v.ownBlock = some g → B ≤ g ∧ g < W.heap.size := by
  obtain ⟨xs, h1, _⟩ := h
  exact fun g hg => h1.lt g hg
theorem RowM.empty {B g : Nat} {W : World} (hB : B ≤ g) (h : W.heap[g]? = some (.cells #[] 29 (0, 0))) : RowM B (.slice (some ⟨g, 0, none⟩) 0 0) [] W :=
  ⟨[], ⟨rfl, .inr ⟨g, 0, #[], rfl, hB, h, Nat.le_refl _, by unfold maxLen; omega, rfl, rfl⟩⟩, rfl⟩
/-- While parts are read. -/
structure PA (w : World) (g n c : Nat) (s : St) (v : Value) (us : List Tm) (W : World) : Prop where
  below : Below w.heap.size w W
  b1 : W.heap[w.heap.size]? = some (.cells #[.slice (some ⟨g, 0, none⟩) n c, .int .i64 s.i, .bool s.bad] 56 (0, 0))
  b2 : W.heap[w.heap.size + 1]? = some (.cells #[.slice none 0 0, .int .i64 0, .bool false] 56 (0, 0))
  row : RowM (w.heap.size + 2) v us W
  lt : s.i < n
theorem PA.call {w : World} {g n c : Nat} {s : St} {v : Value} {us : List Tm} {W W' : World} (k : PA w g n c s v us W) (hb : Below W.heap.size W W') : PA w g n c s v us W' :=
  ⟨k.below.trans (hb.mono k.below.size), bx_call k.b1 hb, bx_call k.b2 hb, k.row.below hb, k.lt⟩
theorem PA.drew {w : World} {g n c : Nat} {s : St} {v : Value} {us : List Tm} {W : World} (k : PA w g n c s v us W) : PA w g n c s v us W.drew := ⟨k.below.drew, k.b1, k.b2, k.row.drew, k.lt⟩
theorem PA.state {w : World} {g n c : Nat} {s s' : St} {v : Value} {us : List Tm} {W W' : World} (k : PA w g n c s v us W) (hp : Put1 w.heap.size #[.slice (some ⟨g, 0, none⟩) n c, .int .i64 s'.i, .bool s'.bad] 56 W W') (hl : s'.i < n) : PA w g n c s' v us W' :=
  ⟨hp.below k.below (Nat.le_refl _), hp.here, bx_put k.b2 hp (by omega), k.row.put hp (by omega), hl⟩
theorem PA.size {w : World} {g n c : Nat} {s : St} {v : Value} {us : List Tm} {W : World} (k : PA w g n c s v us W) : w.heap.size + 2 ≤ W.heap.size := by have := lt_of_block k.b2; omega
theorem PA.app {w : World} {g n c : Nat} {s : St} {v : Value} {us : List Tm} {W A : World} {B : Nat} {h : Hd} {q : Option Addr} {l d : Nat} {t : Tm} (k : PA w g n c s v us W) (hT : TmFr B A h q l d t W) (hB : w.heap.size + 2 ≤ B) (hg : ∀ g, v.ownBlock = some g → g < B) :
    ∃ xs, W.ownsRow (w.heap.size + 2) 29 8 v us.length xs ∧ ∀ v' W3, W3.ownsRow (w.heap.size + 2) 29 8 v' (us.length + 1) (xs ++ tcells h q l d) → W.grownBy W3 v.ownBlock → (v'.ownBlock = v.ownBlock ∨ v'.ownBlock = some W.heap.size) → PA w g n c s v' (us ++ [t]) W3 := by
  obtain ⟨xs, h1, h2⟩ := k.row
  refine ⟨xs, h1, fun v' W3 ho hgr hat => ?_⟩
  have hown : ∀ b, b < w.heap.size + 2 → some b ≠ v.ownBlock := fun b hb e => by have := (h1.lt b e.symm).1; omega
  have hz := k.size
  exact ⟨k.below.grown hgr (by omega) (fun b e => by have := (h1.lt b e).1; omega), (hgr.block _ (by omega) (hown _ (by omega))).trans k.b1, (hgr.block _ (by omega) (hown _ (by omega))).trans k.b2, rowM_step h1 h2 (hT.fresh (Nat.le_refl _)) hB hg ho hgr hat, k.lt⟩
/-- How parts ends. -/
def PartsEnd' (g n c : Nat) (R : St × List Tm) (w : World) (e : Ending) (w' : World) : Prop :=
  ∃ q d, e = .returned (.tuple #[.agg #[.slice (some ⟨g, 0, none⟩) n c, .int .i64 R.1.i, .bool R.1.bad], .slice q R.2.length d]) ∧ RowM w.heap.size (.slice q R.2.length d) R.2 w' ∧ Below w.heap.size w w'
def DParts (F : List ByteArray → St → Option (St × List Tm)) (g n c : Nat) (ts : List Tok) : Prop := ∀ (w : World) (s : St) (ws : List ByteArray) (pw kw : Nat) (R : St × List Tm), RowAt w g n c ts → s.i < n → (∀ j, j < kw → w.cell? ⟨pw, j, none⟩ = some (.string (sel ws j))) → ws.length = kw → kw ≤ 3 → pw < w.heap.size → F ws s = some R →
  Calls Tryz.prog 48 #[.agg #[.slice (some ⟨g, 0, none⟩) n c, .int .i64 s.i, .bool s.bad], .slice (some ⟨pw, 0, none⟩) kw kw] w (PartsEnd' g n c R w)
theorem drop_sel (ws : List ByteArray) (j : Nat) (hj : j < ws.length) : ws.drop j = sel ws j :: ws.drop (j + 1) := by
  unfold sel
  rw [List.getD_eq_getElem?_getD, List.getElem?_eq_getElem hj]
  exact List.drop_eq_getElem_cons hj

set_option maxRecDepth 100000 in
set_option maxHeartbeats 51200000 in
theorem partsD_walk (g n c : Nat) (ts : List Tok) (m : Nat) (hE : ∀ k, k < m → DPart 24 (exprF ts k) g n c ts) : DParts (partsF ts m) g n c ts := by
  intro w s ws pw kw R hR hs hws hkw hk3 hpw hF
  obtain ⟨i0, hi, hz0, hz1, hz2⟩ := info_parts infoTm
  have HI := Lib.hid hi; have HZ0 := Lib.hid hz0; have HZ1 := Lib.hid hz1; have HZ2 := Lib.hid hz2
  clear hi hz0 hz1 hz2
  have hst : ∀ W, Below w.heap.size w W → ∀ j, j < kw → W.cell? ⟨pw, j, none⟩ = some (.string (sel ws j)) := fun W hb j hj => (hb.cell (p := ⟨pw, j, none⟩) hpw).trans (hws j hj)
  have hrow := fun W (hb : Below w.heap.size w W) => hR.below hb
  have h0 : PA w g n c s (.slice (some ⟨w.heap.size + 1 + 1, 0, none⟩) 0 0) [] (((w.alloc (.cells #[.slice (some ⟨g, 0, none⟩) n c, .int .i64 s.i, .bool s.bad] 56)).alloc (.cells #[.slice none 0 0, .int .i64 0, .bool false] 56)).alloc (.cells #[] 29)) := by
    have z1 : (w.alloc (.cells #[.slice (some ⟨g, 0, none⟩) n c, .int .i64 s.i, .bool s.bad] 56)).heap.size = w.heap.size + 1 := by simp
    have z2 : ((w.alloc (.cells #[.slice (some ⟨g, 0, none⟩) n c, .int .i64 s.i, .bool s.bad] 56)).alloc (.cells #[.slice none 0 0, .int .i64 0, .bool false] 56)).heap.size = w.heap.size + 1 + 1 := by simp
    refine ⟨(((Below.refl _ _).alloc (Nat.le_refl _) _).alloc (by simp) _).alloc (by simp; omega) _, ?_, ?_, RowM.empty (by omega) ?_, hs⟩
    · rw [Below.heap_alloc _ _ _ (by omega), Below.heap_alloc _ _ _ (by omega)]; exact heap_alloc_new _ _
    · rw [Below.heap_alloc _ _ _ (by omega), ← z1]; exact heap_alloc_new _ _
    · rw [← z2]; exact heap_alloc_new _ _
  have hwant := fun (s' : St) (x : ByteArray) (hl : s'.i < n) W (h : RowAt W g n c ts) => want_walk W g n c ts s'.i s'.bad x h hl
  have hwn := fun (s' : St) (x : ByteArray) (hx : x ≠ ⟨#[]⟩) (hl : s'.i < n) => want_n hR (s := s') (x := x) hx hl
  have hen := fun (k : Nat) (s' : St) (r : St × Tm) (hl : s'.i < n) (he : exprF ts k s' = some r) => expr_n hR hl he
  have HST := Lib.hid hst; have HROW := Lib.hid hrow; have HP0 := Lib.hid h0; have HE := Lib.hid hE; have HWANT := Lib.hid hwant; have HWN := Lib.hid hwn; have HEN := Lib.hid hen; have HKW := Lib.hid hkw
  have hf0 : partsF ts m (ws.drop ([] : List Tm).length) s = some (R.1, R.2) := hF
  have HF0 := Lib.hid hf0
  clear hst hrow h0 hE hwant hwn hen hkw hf0 hF hws hR hs hpw
  go_enter Tryz.func48, Tryz.ntmps48
  go_wp2_with (fail)
  go_loopw [6, 7, 13] (fun row _ i wr => ∃ (f : Nat) (s' : St) (done rest : List Tm) (c0 : Nat) (a : Option Addr), done.length ≤ kw ∧ i = .int .i64 done.length ∧ row = .slice a done.length c0 ∧ f ≤ m ∧ Hid (PA w g n c s' (.slice a done.length c0) done wr) ∧ Hid (partsF ts f (ws.drop done.length) s' = some (R.1, rest)) ∧ Hid (R.2 = done ++ rest)) (fun _ _ i _ => kw - (intOf i).toNat)
  case atStart => exact ⟨m, s, [], R.2, 0, some ⟨w.heap.size + 1 + 1, 0, none⟩, Nat.zero_le _, rfl, rfl, Nat.le_refl _, HP0, HF0, Lib.hid rfl⟩
  case round =>
    obtain ⟨f, s', done, rest, c0, a, hj, rfl, rfl, hf, HPA, HF, HRR⟩ := hrel
    clear HP0 HF0
    by_cases hlt : done.length < kw
    · have hd := drop_sel ws done.length (by rw [HKW.out]; exact hlt)
      have kc := HST.out wr HPA.out.below done.length hlt
      have hl := HF.out
      have hj1 : (done.length : Int) < (kw : Int) := by omega
      have hj0 : (0 : Int) ≤ (done.length : Int) := by omega
      rw [hd] at hl
      generalize hxe : sel ws done.length = x at *
      have HXE := Lib.hid hxe
      clear hxe hd
      cases f with
      | zero => exact absurd hl (by simp [partsF])
      | succ k =>
        rw [partsF] at hl
        obtain ⟨r, hr, hl2⟩ := Option.bind_eq_some_iff.1 hl
        obtain ⟨q, hq, hqe⟩ := Option.map_eq_some_iff.1 hl2
        obtain ⟨hq1, hq2⟩ := Prod.mk.inj hqe
        have hq3 : partsF ts k (ws.drop (done ++ [r.2]).length) r.1 = some (R.1, q.2) := by rw [List.length_append, List.length_singleton, hq, ← hq1]
        have hrr2 : R.2 = (done ++ [r.2]) ++ q.2 := by rw [HRR.out, ← hq2]; simp
        have HQ := Lib.hid hq3; have HRR2 := Lib.hid hrr2
        clear hl hl2 hq hqe hq1 hq2 hq3 hrr2 HF HRR
        by_cases hx0 : x = e0
        · rw [if_pos hx0] at hr
          have exx : (x.toList == []) = true := by rw [hx0]; decide +kernel
          have hrl := HEN.out _ _ _ HPA.out.lt hr
          have HR0 := Lib.hid hr; have HRL := Lib.hid hrl; have HLT := Lib.hid HPA.out.lt
          clear hr hrl hx0
          obtain ⟨⟨x0, x1, x2⟩, y0, y1, y2⟩ := cellsS HPA.out.b1
          go_wp2_with (fail)
          refine (HE.out k (by omega) wr s' r (HROW.out wr HPA.out.below) HLT.out HR0.out).mono ?_
          rintro e w3 ⟨h, q', l, d, rfl, hT, hb3⟩
          clear x0 x1 x2 y0 y1 y2
          have hg3 := HPA.out.row.lt
          have hz3 := HPA.out.size
          have hl3 : wr.heap.size ≤ w3.heap.size := hb3.size
          have HP9 := Lib.hid ((HPA.out.call hb3).call ((al_new (W := w3) (.cells #[.slice (some ⟨g, 0, none⟩) n c, .int .i64 r.1.i, .bool r.1.bad] 56)).trans ((al_new (.cells #[.int .u8 h.k, .int .u8 h.op, .int .i64 h.pl, .int .i64 h.n, .string h.name, .string h.arg, .string h.exn, .slice q' l d] 29)).mono (al_new (W := w3) (.cells #[.slice (some ⟨g, 0, none⟩) n c, .int .i64 r.1.i, .bool r.1.bad] 56)).size)))
          have HTF9 := Lib.hid ((TmFr.new hT).call ((al_new (W := w3) (.cells #[.slice (some ⟨g, 0, none⟩) n c, .int .i64 r.1.i, .bool r.1.bad] 56)).trans ((al_new (.cells #[.int .u8 h.k, .int .u8 h.op, .int .i64 h.pl, .int .i64 h.n, .string h.name, .string h.arg, .string h.exn, .slice q' l d] 29)).mono (al_new (W := w3) (.cells #[.slice (some ⟨g, 0, none⟩) n c, .int .i64 r.1.i, .bool r.1.bad] 56)).size)))
          have hz6 : ((w3.alloc (.cells #[.slice (some ⟨g, 0, none⟩) n c, .int .i64 r.1.i, .bool r.1.bad] 56)).alloc (.cells #[.int .u8 h.k, .int .u8 h.op, .int .i64 h.pl, .int .i64 h.n, .string h.name, .string h.arg, .string h.exn, .slice q' l d] 29)).heap[w3.heap.size + 1]? = some (.cells #[.int .u8 h.k, .int .u8 h.op, .int .i64 h.pl, .int .i64 h.n, .string h.name, .string h.arg, .string h.exn, .slice q' l d] 29 (0, 0)) := by rw [← show (w3.alloc (.cells #[.slice (some ⟨g, 0, none⟩) n c, .int .i64 r.1.i, .bool r.1.bad] 56)).heap.size = w3.heap.size + 1 from by simp]; exact heap_alloc_new _ _
          have HC9 := Lib.hid hz6
          have HG := Lib.hid (fun g hg => (hg3 g hg).2)
          clear hz6 hT hb3 hg3
          go_wp2_with (first | (refine wpList_stS w.heap.size 2 32 (some ⟨g, 0, none⟩) n c r.1.i r.1.bad _ _ _ rfl rfl HP9.out.b1 ?_; intro w10 p10; have HP10 := Lib.hid (HP9.out.state (s' := r.1) p10 HRL.out); have HTF10 := Lib.hid (HTF9.out.put p10 (.inl (by omega))); have HC10 := Lib.hid (bx_put HC9.out p10 (by omega)); clear p10; obtain ⟨⟨z0, z1, z2, z3, z4, z5, z6, z7⟩, -⟩ := cells8' HC10.out) | (at_builtin; obtain ⟨xs, hown, hnext⟩ := (HP10.out.call (al_new (.cells #[.int .u8 h.k, .int .u8 h.op, .int .i64 h.pl, .int .i64 h.n, .string h.name, .string h.arg, .string h.exn, .slice q' l d] 29))).app (HTF10.out.call (al_new (.cells #[.int .u8 h.k, .int .u8 h.op, .int .i64 h.pl, .int .i64 h.n, .string h.name, .string h.arg, .string h.exn, .slice q' l d] 29))) (by omega) HG.out; refine wpList_append_own_at _ rfl (.tmp 33) (.tmp 35) 27 rfl (w.heap.size + 2) 29 i0 _ 8 96 Tryz.underlying27 HI.out HZ0.out HZ1.out HZ2.out rfl (by decide) (.slice a done.length c0) done.length xs rfl hown ⟨w10.heap.size, 0, none⟩ 1 1 (tcells h q' l d) rfl rfl (newT_cells rfl) (cellsT_one _ _ _ _) (by unfold maxLen; omega) (by omega) (by have := HP10.out.size; simp; omega) ?_; intro v' w11 hown3 hgrow3 _ hat3; have hpa := hnext v' w11 hown3 hgrow3 hat3; obtain ⟨a3, c3, rfl, hc3, hn3⟩ := ownT_slice hown3; have HP11 := Lib.hid hpa; clear hown3 hgrow3 hat3 hpa hown hnext z0 z1 z2 z3 z4 z5 z6 z7))
          go_roundw
          case rel => exact ⟨k, r.1, done ++ [r.2], q.2, c3, a3, by rw [List.length_append, List.length_singleton]; omega, by rw [List.length_append, List.length_singleton]; go_num, by rw [List.length_append, List.length_singleton], by omega, by rw [List.length_append, List.length_singleton]; exact HP11, HQ, HRR2⟩
          case measure => simp [intOf]; omega
        · rw [if_neg hx0] at hr
          have exx : (x.toList == []) = false := by
            rw [show ([] : List UInt8) = e0.toList from by decide +kernel]; exact str_no hx0
          have hl2 := HWN.out s' x hx0 HPA.out.lt
          have hrl := HEN.out _ _ _ hl2 hr
          have hwt := HWANT.out s' x HPA.out.lt
          generalize wantF ts s' x = s2 at *
          have HR0 := Lib.hid hr; have HRL := Lib.hid hrl; have HLT := Lib.hid hl2; have HWT := Lib.hid hwt
          clear hr hrl hx0 hl2 hwt
          go_wp2_with (fail)
          have hini := HPA.out.below.drew
          have hp0 := HPA.out.drew
          refine wp_region_held_drew (S := fun V => Below w.heap.size w V) (by kernel_rfl) hini (fun hHeld => ?_)
          have HB0 := Lib.hid hini; have HQ0 := Lib.hid hp0
          clear hini hp0 kc
          generalize wr.drew = v0 at *
          refine wpAnyH_take (i := 1) (v := .slice (some ⟨pw, 0, none⟩) kw kw) rfl (by kernel_rfl) (by kernel_rfl) (by kernel_rfl) (fun _ _ _ h => h) (Or.inl ⟨by rfl, ?_⟩) (by assumption) ?_
          · intro w' hSw
            first | (go_simp; done) | rfl
          try simp only [Act.put, List.getElem_toArray, List.getElem_cons_succ, List.getElem_cons_zero, List.setIfInBounds_toArray, List.set_cons_zero, List.set_cons_succ]
          refine wpAnyH_take (i := 2) (v := .int .i64 (done.length : Int)) rfl (by kernel_rfl) (by kernel_rfl) (by kernel_rfl) (fun _ _ _ h => h) (Or.inl ⟨by rfl, ?_⟩) (by assumption) ?_
          · intro w' hSw
            first | (go_simp; done) | rfl
          try simp only [Act.put, List.getElem_toArray, List.getElem_cons_succ, List.getElem_cons_zero, List.setIfInBounds_toArray, List.set_cons_zero, List.set_cons_succ]
          refine wpAnyH_take (i := 3) (v := .pointer (some ⟨pw, done.length, none⟩)) rfl (by kernel_rfl) (by kernel_rfl) (by kernel_rfl) (fun _ _ _ h => h) (Or.inl ⟨by rfl, ?_⟩) (by assumption) ?_
          · intro w' hSw
            first | (go_simp; done) | rfl
          try simp only [Act.put, List.getElem_toArray, List.getElem_cons_succ, List.getElem_cons_zero, List.setIfInBounds_toArray, List.set_cons_zero, List.set_cons_succ]
          refine wpAnyH_take (i := 4) (v := .string x) rfl (by kernel_rfl) (by kernel_rfl) (by kernel_rfl) (fun _ _ _ h => h) (Or.inl ⟨by rfl, ?_⟩) (by assumption) ?_
          · intro w' hSw
            have g0 := HST.out w' hSw done.length hlt
            rw [HXE.out] at g0
            first | (go_simp; done) | rfl
          try simp only [Act.put, List.getElem_toArray, List.getElem_cons_succ, List.getElem_cons_zero, List.setIfInBounds_toArray, List.set_cons_zero, List.set_cons_succ]
          refine wpAnyH_ready (rs := [0]) (by kernel_rfl) (by simp) ?_
          refine AllReadyH.cons rfl (fun K hK => ?_) AllReadyH.nil
          have HK2 := Lib.hid hK
          clear hK
          obtain ⟨⟨x0, x1, x2⟩, y0, y1, y2⟩ := cellsS HQ0.out.b1
          go_simp
          refine HK2.out _ _ HB0.out (fun hHeld => ?_)
          clear HK2 hHeld x0 x1 x2 y0 y1 y2
          try simp only [Act.put, List.getElem_toArray, List.getElem_cons_succ, List.getElem_cons_zero, List.setIfInBounds_toArray, List.set_cons_zero, List.set_cons_succ]
          clear K
          refine wpAnyH_ready (rs := [5]) (by kernel_rfl) (by simp) ?_
          refine AllReadyH.cons rfl (fun K hK => ?_) AllReadyH.nil
          have HK2 := Lib.hid hK
          clear hK
          go_simp
          refine (HWT.out v0 (HROW.out v0 HB0.out)).mono ?_
          rintro e v1 ⟨rfl, hb1⟩
          have HQ1 := Lib.hid (HQ0.out.call hb1)
          clear hb1
          refine HK2.out _ _ HQ1.out.below (fun hHeld => ?_)
          clear HK2 hHeld
          try simp only [Act.put, List.getElem_toArray, List.getElem_cons_succ, List.getElem_cons_zero, List.setIfInBounds_toArray, List.set_cons_zero, List.set_cons_succ]
          clear K
          refine wpAnyH_ready (rs := [6]) (by kernel_rfl) (by simp) ?_
          refine AllReadyH.cons rfl (fun K hK => ?_) AllReadyH.nil
          have HK2 := Lib.hid hK
          clear hK
          try rw [if_pos (by rfl)]
          refine wp_stS _ _ _ _ _ _ _ w.heap.size _ _ (some ⟨g, 0, none⟩) n c s2.i s2.bad _ _ _ rfl rfl HQ1.out.b1 (fun v2 p2 => ?_)
          have HQ2 := Lib.hid (HQ1.out.state (s' := s2) p2 HLT.out)
          clear p2
          refine HK2.out _ _ HQ2.out.below (fun hHeld => ?_)
          clear HK2
          try simp only [Act.put, List.getElem_toArray, List.getElem_cons_succ, List.getElem_cons_zero, List.setIfInBounds_toArray, List.set_cons_zero, List.set_cons_succ]
          clear K
          refine wpAnyH_done (by kernel_rfl) ?_ _
          clear hHeld
          obtain ⟨⟨x0, x1, x2⟩, y0, y1, y2⟩ := cellsS HQ2.out.b1
          go_wp2_with (fail)
          refine (HE.out k (by omega) v2 s2 r (HROW.out v2 HQ2.out.below) HLT.out HR0.out).mono ?_
          rintro e w3 ⟨h, q', l, d, rfl, hT, hb3⟩
          clear x0 x1 x2 y0 y1 y2
          have hg3 := HQ2.out.row.lt
          have hz3 := HQ2.out.size
          have hl3 : v2.heap.size ≤ w3.heap.size := hb3.size
          have HP9 := Lib.hid ((HQ2.out.call hb3).call ((al_new (W := w3) (.cells #[.slice (some ⟨g, 0, none⟩) n c, .int .i64 r.1.i, .bool r.1.bad] 56)).trans ((al_new (.cells #[.int .u8 h.k, .int .u8 h.op, .int .i64 h.pl, .int .i64 h.n, .string h.name, .string h.arg, .string h.exn, .slice q' l d] 29)).mono (al_new (W := w3) (.cells #[.slice (some ⟨g, 0, none⟩) n c, .int .i64 r.1.i, .bool r.1.bad] 56)).size)))
          have HTF9 := Lib.hid ((TmFr.new hT).call ((al_new (W := w3) (.cells #[.slice (some ⟨g, 0, none⟩) n c, .int .i64 r.1.i, .bool r.1.bad] 56)).trans ((al_new (.cells #[.int .u8 h.k, .int .u8 h.op, .int .i64 h.pl, .int .i64 h.n, .string h.name, .string h.arg, .string h.exn, .slice q' l d] 29)).mono (al_new (W := w3) (.cells #[.slice (some ⟨g, 0, none⟩) n c, .int .i64 r.1.i, .bool r.1.bad] 56)).size)))
          have hz6 : ((w3.alloc (.cells #[.slice (some ⟨g, 0, none⟩) n c, .int .i64 r.1.i, .bool r.1.bad] 56)).alloc (.cells #[.int .u8 h.k, .int .u8 h.op, .int .i64 h.pl, .int .i64 h.n, .string h.name, .string h.arg, .string h.exn, .slice q' l d] 29)).heap[w3.heap.size + 1]? = some (.cells #[.int .u8 h.k, .int .u8 h.op, .int .i64 h.pl, .int .i64 h.n, .string h.name, .string h.arg, .string h.exn, .slice q' l d] 29 (0, 0)) := by rw [← show (w3.alloc (.cells #[.slice (some ⟨g, 0, none⟩) n c, .int .i64 r.1.i, .bool r.1.bad] 56)).heap.size = w3.heap.size + 1 from by simp]; exact heap_alloc_new _ _
          have HC9 := Lib.hid hz6
          have HG := Lib.hid (fun g hg => (hg3 g hg).2)
          clear hz6 hT hb3 hg3
          go_wp2_with (first | (refine wpList_stS w.heap.size 2 32 (some ⟨g, 0, none⟩) n c r.1.i r.1.bad _ _ _ rfl rfl HP9.out.b1 ?_; intro w10 p10; have HP10 := Lib.hid (HP9.out.state (s' := r.1) p10 HRL.out); have HTF10 := Lib.hid (HTF9.out.put p10 (.inl (by omega))); have HC10 := Lib.hid (bx_put HC9.out p10 (by omega)); clear p10; obtain ⟨⟨z0, z1, z2, z3, z4, z5, z6, z7⟩, -⟩ := cells8' HC10.out) | (at_builtin; obtain ⟨xs, hown, hnext⟩ := (HP10.out.call (al_new (.cells #[.int .u8 h.k, .int .u8 h.op, .int .i64 h.pl, .int .i64 h.n, .string h.name, .string h.arg, .string h.exn, .slice q' l d] 29))).app (HTF10.out.call (al_new (.cells #[.int .u8 h.k, .int .u8 h.op, .int .i64 h.pl, .int .i64 h.n, .string h.name, .string h.arg, .string h.exn, .slice q' l d] 29))) (by omega) HG.out; refine wpList_append_own_at _ rfl (.tmp 33) (.tmp 35) 27 rfl (w.heap.size + 2) 29 i0 _ 8 96 Tryz.underlying27 HI.out HZ0.out HZ1.out HZ2.out rfl (by decide) (.slice a done.length c0) done.length xs rfl hown ⟨w10.heap.size, 0, none⟩ 1 1 (tcells h q' l d) rfl rfl (newT_cells rfl) (cellsT_one _ _ _ _) (by unfold maxLen; omega) (by omega) (by have := HP10.out.size; simp; omega) ?_; intro v' w11 hown3 hgrow3 _ hat3; have hpa := hnext v' w11 hown3 hgrow3 hat3; obtain ⟨a3, c3, rfl, hc3, hn3⟩ := ownT_slice hown3; have HP11 := Lib.hid hpa; clear hown3 hgrow3 hat3 hpa hown hnext z0 z1 z2 z3 z4 z5 z6 z7))
          go_roundw
          case rel => exact ⟨k, r.1, done ++ [r.2], q.2, c3, a3, by rw [List.length_append, List.length_singleton]; omega, by rw [List.length_append, List.length_singleton]; go_num, by rw [List.length_append, List.length_singleton], by omega, by rw [List.length_append, List.length_singleton]; exact HP11, HQ, HRR2⟩
          case measure => simp [intOf]; omega
    · have hjk : done.length = kw := by omega
      have hl := HF.out
      rw [hjk, ← HKW.out, List.drop_length] at hl
      cases f with
      | zero => exact absurd hl (by simp [partsF])
      | succ k =>
        rw [partsF] at hl
        obtain ⟨h1, h2⟩ := Prod.mk.inj (Option.some.inj hl)
        have hr2 : R.2 = done := by rw [HRR.out, ← h2]; simp
        have hr1 : R.1 = s' := h1.symm
        obtain ⟨⟨x0, x1, x2⟩, y0, y1, y2⟩ := cellsS HPA.out.b1
        have hkd : (kw : Int) = (done.length : Int) := by omega
        have HH := Lib.hid (And.intro hr1 hr2)
        clear hl h1 h2 hr1 hr2
        go_wp2_with (refine wpList_stS (w.heap.size + 1) 4 38 (some ⟨g, 0, none⟩) n c s'.i s'.bad _ _ _ rfl rfl HPA.out.b2 ?_; intro w12 p12; have HPP := Lib.hid p12; clear p12)
        have hr := HPP.out.here
        have rl2 := lt_of_block hr
        obtain ⟨⟨r0, r1, r2⟩, d0, d1, d2⟩ := cellsS hr
        clear hr
        refine bodyPost_ret (v := .tuple #[.agg #[.slice (some ⟨g, 0, none⟩) n c, .int .i64 s'.i, .bool s'.bad], .slice a done.length c0]) (by simp [results, Tryz.results48, go_sem, r0, r1, r2, rl2]) rfl ⟨a, c0, by rw [HH.out.1, HH.out.2], by rw [HH.out.2]; exact (HPA.out.row.put HPP.out (by omega)).weak (by omega), HPP.out.below HPA.out.below (by omega)⟩
end Parse
end Go.Proofs.YtadpjkehflokcaaGreatDoor
namespace Go.Proofs.YtadpjkehflokcaaGreatDoor
open Go.RowKit
set_option linter.unusedVariables false
set_option linter.unusedSimpArgs false
namespace Parse
open Token (Tok tel ToksAt)
open Term (Tm Hd TmIs Flat tcells veil Reads HdOk Kids)
open Words (str_no str_yes sel)
theorem etl_wLet : wLet.toList = [108, 101, 116] := by decide +kernel
theorem etl_wLetrec : wLetrec.toList = [108, 101, 116, 114, 101, 99] := by decide +kernel
theorem etl_wFn : wFn.toList = [102, 110] := by decide +kernel
theorem etl_wIf : wIf.toList = [105, 102] := by decide +kernel
theorem etl_wTry : wTry.toList = [116, 114, 121] := by decide +kernel
theorem texts_at (w : World) (t : TypeId) (ss : List ByteArray) : ∀ j, j < ss.length → (w.alloc (.cells (ss.map Value.string).toArray t)).cell? ⟨w.heap.size, j, none⟩ = some (.string (sel ss j)) := by
  intro j hj
  rcases strs_alloc w t ss with h | ⟨b, o, hp, hc⟩
  · rw [h] at hj; simp at hj
  · injection hp with hp
    injection hp with h1 h2
    subst h1; subst h2
    have := hc j hj
    rwa [Nat.zero_add] at this
theorem parts_n {w : World} {g n c : Nat} {ts : List Tok} (hR : RowAt w g n c ts) {m : Nat} {ws : List ByteArray} {s : St} {r : St × List Tm} (hs : s.i < n) (h : partsF ts m ws s = some r) : r.1.i < n := by
  have := (lt_all ts hR.row m).2.1 ws s r (by rw [hR.len]; exact hs) h
  rw [hR.len] at this; exact this
/-- A node whose kids lie in a row. -/
theorem nodeR {B : Nat} {A w wr V : World} {q : Option Addr} {us : List Tm} {d : Nat} {h' : Hd} (k : RowFr B A (.slice q us.length d) us wr) (hB : w.heap.size + 3 ≤ B) (hE : EndV w wr V) (hd : HdOk h') : TmIs (Parse.fresh w.heap.size V) h' q us.length d (.node h' us) := by
  have k2 : RowFr B A (.slice q us.length d) us V := ⟨k.row, fun b h1 h2 => (hE.off b (Nat.lt_of_lt_of_le h2 k.size) (by omega) (by omega)).trans (k.off b h1 h2), Nat.le_trans k.size hE.size⟩
  have h := k2.now.weak (B0 := w.heap.size) (by omega)
  obtain ⟨a, c, e, hc, hl⟩ := h.slice
  injection e with e1 e2 e3
  subst e3
  exact ⟨rfl, rfl, hd, ⟨hl, hc⟩, h.kids⟩
end Parse
end Go.Proofs.YtadpjkehflokcaaGreatDoor
