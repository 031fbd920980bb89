/- The document's walk for the names that are free. -/
import Derived.Test.YtkcadkjpneoobaaDoorScopeRb
import Derived.Test.YtkcadkjpneoobaaDoorGTermA
namespace Go.Proofs.YtkcadkjpneoobaaDoor
open Go.RowKit
set_option linter.unusedVariables false
set_option linter.unusedSimpArgs false
namespace Scope
open Term (Tm Hd TmIs ret_bool ret_i64 tget wt wts wts_cons wts_nil okT okK nodeB kidsN drop_tget)
open Words (str_no str_yes sel StrsAt)

theorem looks_app (look : List ByteArray → Hd → ByteArray) (A B : List (List ByteArray × Hd)) : looks look (A ++ B) = looks look A ++ looks look B := by unfold looks; rw [List.map_append]
theorem ok_parts {t : Tm} (h : okT t = true) : nodeB t.h t.ks.length = true ∧ okK t.ks = true := by
  rw [Term.okT_eq, Bool.and_eq_true] at h
  exact h
theorem ok_kid : ∀ {ts : List Tm} {j : Nat}, okK ts = true → j < ts.length → okT (tget ts j) = true
  | t :: ts, 0, h, _ => by rw [Term.okK_cons, Bool.and_eq_true] at h; exact h.1
  | t :: ts, j + 1, h, hj => by rw [Term.okK_cons, Bool.and_eq_true] at h; exact ok_kid (ts := ts) h.2 (by simpa using hj)
theorem name_empty : Words.nameB (⟨#[]⟩ : ByteArray) = false := by kernel_rfl
theorem exn_empty : Words.exnB (⟨#[]⟩ : ByteArray) = false := by kernel_rfl
theorem node_kids {h : Hd} {l : Nat} (hn : nodeB h l = true) : kidsN h.k = l := by
  unfold nodeB at hn
  rw [Bool.and_eq_true] at hn
  exact (of_decide_eq_true hn.1).1
theorem node_name {h : Hd} {l : Nat} (hn : nodeB h l = true) (hk : h.k = 2) : h.name ≠ ⟨#[]⟩ := by
  unfold nodeB at hn
  rw [Bool.and_eq_true, Bool.and_eq_true, Bool.and_eq_true] at hn
  have h1 := hn.2.1.1
  unfold Term.fitsB at h1
  rw [if_pos (by unfold Term.nameF; simp [hk])] at h1
  intro e
  rw [e, name_empty] at h1
  cases h1
theorem kids13 {h : Hd} {l j : Nat} (hn : nodeB h l = true) (hj : j < l) (hk : h.k = 13) : j = 0 ∨ j = 1 := by
  have h1 := node_kids hn
  rw [hk] at h1
  have h2 : kidsN 13 = 2 := by decide
  omega
theorem kids2 {h : Hd} {l : Nat} (hn : nodeB h l = true) (hk : h.k = 2) : l = 0 := by
  have h1 := node_kids hn
  rw [hk] at h1
  have h2 : kidsN 2 = 0 := by decide
  omega
/-- What stays while a kid is looked at. -/
structure KidS (w : World) (C : Array Value) (b o : Nat) (D : List Value) (V : World) : Prop where
  box : V.heap[w.heap.size]? = some (.cells C 27 (0, 0))
  kid : ∀ i v, D[i]? = some v → V.cell? ⟨b, o + i, none⟩ = some v
  below : Below w.heap.size w V
theorem KidS.later {w : World} {C : Array Value} {b o : Nat} {D : List Value} {V W : World} (h : KidS w C b o D V) (hb : Below V.heap.size V W) : KidS w C b o D W :=
  ⟨(hb.block _ (lt_of_block h.box)).trans h.box, fun i v hv => (hb.cell (p := ⟨b, o + i, none⟩) (World.block_lt_of_cell? V _ (h.kid i v hv))).trans (h.kid i v hv), h.below.trans (hb.mono h.below.size)⟩
theorem kid_cells {V : World} {b o j : Nat} {K : Int} {v0 v1 v2 v3 v4 v5 v6 v7 : Value} (c0 : V.cell? ⟨b, o + j * 8, none⟩ = some v0) (c1 : V.cell? ⟨b, o + j * 8 + 1, none⟩ = some v1) (c2 : V.cell? ⟨b, o + j * 8 + 2, none⟩ = some v2) (c3 : V.cell? ⟨b, o + j * 8 + 3, none⟩ = some v3)
    (c4 : V.cell? ⟨b, o + j * 8 + 4, none⟩ = some v4) (c5 : V.cell? ⟨b, o + j * 8 + 5, none⟩ = some v5) (c6 : V.cell? ⟨b, o + j * 8 + 6, none⟩ = some v6) (c7 : V.cell? ⟨b, o + j * 8 + 7, none⟩ = some v7) : ∀ i v, [v0, v1, v2, v3, v4, v5, v6, v7][i]? = some v → V.cell? ⟨b, o + j * 8 + i, none⟩ = some v := by
  intro i v hv
  match i, hv with
  | 0, hv => simp at hv; subst hv; exact c0
  | 1, hv => simp at hv; subst hv; exact c1
  | 2, hv => simp at hv; subst hv; exact c2
  | 3, hv => simp at hv; subst hv; exact c3
  | 4, hv => simp at hv; subst hv; exact c4
  | 5, hv => simp at hv; subst hv; exact c5
  | 6, hv => simp at hv; subst hv; exact c6
  | 7, hv => simp at hv; subst hv; exact c7
  | i + 8, hv => simp at hv
/-- The names that are seen so far, ahead of kid j. -/
structure FrI (w : World) (C : Array Value) (t : Tm) (ns : List ByteArray) (fin : List ByteArray) (j : Nat) (wr : World) (v : Value) (s : List ByteArray) : Prop where
  below : Below (w.alloc (.cells C 27)).heap.size (w.alloc (.cells C 27)) wr
  row : Rd wr v s
  len : s.length + wts (t.ks.drop j) ≤ 85000
  eq : putL (looks freeP (visK (t.ks.drop j) t.h j ns)) s = fin

set_option maxRecDepth 100000 in
set_option maxHeartbeats 51200000 in
theorem freeD_walk : ∀ (m : Nat) (t : Tm) (h : Hd) (q : Option Addr) (l c : Nat) (w : World) (v vn : Value) (s ns : List ByteArray), wt t ≤ m → TmIs w h q l c t → okT t = true → Rd w v s → Rd w vn ns → s.length + wt t ≤ 85000 → ns.length + 2 * wt t ≤ 75000 →
    Calls Tryd.prog 31 #[v, .agg #[.int .u8 h.k, .int .u8 h.op, .int .i64 h.pl, .int .i64 h.n, .string h.name, .string h.arg, .string h.exn, .slice q l c], vn] w (WithD (putL (looks freeP (visT t ns)) s) w) := by
  intro m
  induction m with
  | zero => intro t h q l c w v vn s ns hm; have := Term.wt_pos t; omega
  | succ m ih =>
    intro t h q l c w v vn s ns hm hT hok hs hns hsl hnl
    have hwk := Term.wt_ks t
    obtain ⟨hnode, hkok⟩ := ok_parts hok
    have hth := hT.head
    have htl := hT.len
    have hvis := visT_eq t ns
    have hal : Below w.heap.size w (w.alloc (.cells #[.int .u8 h.k, .int .u8 h.op, .int .i64 h.pl, .int .i64 h.n, .string h.name, .string h.arg, .string h.exn, .slice q l c] 27)) := (Below.refl _ _).alloc (Nat.le_refl _) _
    have hbx := heap_alloc_new w (.cells #[.int .u8 h.k, .int .u8 h.op, .int .i64 h.pl, .int .i64 h.n, .string h.name, .string h.arg, .string h.exn, .slice q l c] 27)
    have hfin : putL (looks freeP (visK t.ks t.h 0 ns)) (putS (freeP ns t.h) s) = putL (looks freeP (visT t ns)) s := by
      rw [hvis]
      rfl
    rw [hth] at hnode hfin
    rw [htl] at hnode
    have hcap := hT.cap
    have hlc : l ≤ 9223372036854775807 := by have := hcap; unfold maxLen at this; omega
    obtain ⟨k, op, pl, nn, nm, ar, ex⟩ := h
    have hrw := hs.below hal
    have hrn := hns.below hal
    generalize hF : putL (looks freeP (visT t ns)) s = FIN at *
    have IH := Lib.hid ih; have HM := Lib.hid hm; have HT := Lib.hid hT; have HKOK := Lib.hid hkok; have HND := Lib.hid hnode; have HAL := Lib.hid hal; have HBX := Lib.hid hbx; have HRW := Lib.hid hrw; have HRN := Lib.hid hrn; have HSL := Lib.hid (And.intro hsl (And.intro hnl (And.intro hwk (And.intro hth htl)))); have HFIN := Lib.hid hfin
    clear ih hm hT hkok hnode hal hbx hrw hrn hsl hnl hwk hfin hvis hs hns hok hF hcap
    obtain ⟨⟨b0, b1, b2, b3, b4, b5, b6, b7⟩, f0, f1, f2, f3, f4, f5, f6, f7⟩ := cells8' HBX.out
    have bl := lt_of_block HBX.out
    go_enter Tryd.func31, Tryd.ntmps31
    by_cases k2 : k = 2
    · have e2 : (k == 2) = true := by simpa using k2
      obtain rfl : l = 0 := kids2 HND.out k2
      have hne : nm ≠ ⟨#[]⟩ := node_name HND.out k2
      have hks : t.ks = [] := List.eq_nil_of_length_eq_zero htl
      have hfin := HFIN.out
      rw [hks, visK_nil] at hfin
      have hfin : putS (freeP ns ⟨k, op, pl, nn, nm, ar, ex⟩) s = FIN := hfin
      have hin := rd_in HRN.out nm
      have hpd := putD_walk _ v s nm HRW.out hne (by have := HSL.out.1; omega)
      cases hh : hasB ns nm
      · have hf : freeP ns ⟨k, op, pl, nn, nm, ar, ex⟩ = nm := if_neg (by simp [k2, hh])
        rw [hf] at hfin
        rw [hfin] at hpd
        rw [hh] at hin
        have HIN := Lib.hid hin; have HPD := Lib.hid hpd
        clear hf hfin hpd hin hh hks hne k2 hth htl
        go_wp2_with (fail)
        refine HIN.out.mono ?_
        rintro e w1 ⟨rfl, rfl⟩
        go_wp2_with (fail)
        refine HPD.out.mono ?_
        rintro e w1 ⟨v1, rfl, hr1, hb1⟩
        have y1 := (hb1.block _ (lt_of_block HBX.out)).trans HBX.out
        have HR1 := Lib.hid hr1; have HB1 := Lib.hid (HAL.out.trans (hb1.mono HAL.out.size))
        clear b0 b1 b2 b3 b4 b5 b6 b7 f0 f1 f2 f3 f4 f5 f6 f7 bl
        obtain ⟨⟨b0, b1, b2, b3, b4, b5, b6, b7⟩, f0, f1, f2, f3, f4, f5, f6, f7⟩ := cells8' y1
        have bl := lt_of_block y1
        clear hr1 hb1 y1
        go_wp2_with (fail)
        go_loopw [0, 7, 28] (fun v' _ i wr => v' = v1 ∧ i = .int .i64 0 ∧ wr = w1) (fun _ _ i _ => 1 - (intOf i).toNat)
        case atStart => exact ⟨rfl, rfl, rfl⟩
        case round =>
          obtain ⟨rfl, rfl, rfl⟩ := hrel
          go_wp2_with (fail)
          go_ret
          exact ⟨_, rfl, HR1.out, HB1.out⟩
      · have hf : freeP ns ⟨k, op, pl, nn, nm, ar, ex⟩ = ⟨#[]⟩ := if_pos (.inr hh)
        rw [hf, show putS (⟨#[]⟩ : ByteArray) s = s from if_neg (fun h => h.1 rfl)] at hfin
        rw [hh] at hin
        have HIN := Lib.hid hin; have HFF := Lib.hid hfin
        clear hf hfin hpd hin hh hks hne k2 hth htl
        go_wp2_with (fail)
        refine HIN.out.mono ?_
        rintro e w1 ⟨rfl, rfl⟩
        go_wp2_with (fail)
        go_loopw [0, 7, 28] (fun v' _ i wr => v' = v ∧ i = .int .i64 0 ∧ wr = (w.alloc (.cells #[.int .u8 k, .int .u8 op, .int .i64 pl, .int .i64 nn, .string nm, .string ar, .string ex, .slice q 0 c] 27))) (fun _ _ i _ => 1 - (intOf i).toNat)
        case atStart => exact ⟨rfl, rfl, rfl⟩
        case round =>
          obtain ⟨rfl, rfl, rfl⟩ := hrel
          go_wp2_with (fail)
          go_ret
          exact ⟨_, rfl, by rw [← HFF.out]; exact HRW.out, HAL.out⟩
    · have e2 : (k == 2) = false := by simpa using k2
      have hf : freeP ns ⟨k, op, pl, nn, nm, ar, ex⟩ = ⟨#[]⟩ := if_pos (.inl k2)
      have hfin := HFIN.out
      rw [hf, show putS (⟨#[]⟩ : ByteArray) s = s from if_neg (fun h => h.1 rfl), ← HSL.out.2.2.2.1] at hfin
      have hst : FrI w #[.int .u8 k, .int .u8 op, .int .i64 pl, .int .i64 nn, .string nm, .string ar, .string ex, .slice q l c] t ns FIN 0 (w.alloc (.cells #[.int .u8 k, .int .u8 op, .int .i64 pl, .int .i64 nn, .string nm, .string ar, .string ex, .slice q l c] 27)) v s := ⟨Below.refl _ _, HRW.out, by rw [List.drop_zero]; have := HSL.out.1; have := HSL.out.2.2.1; omega, by rw [List.drop_zero]; exact hfin⟩
      have HST := Lib.hid hst
      clear hf hfin hst k2 hth htl
      go_wp2_with (fail)
      clear b0 b1 b2 b3 b4 b5 b6 b7 f0 f1 f2 f3 f4 f5 f6 f7 bl
      go_loopw [0, 7, 28] (fun v' _ i wr => ∃ (j : Nat) (vs : Value) (s' : List ByteArray), vs = v' ∧ j ≤ l ∧ i = .int .i64 j ∧ Hid (FrI w #[.int .u8 k, .int .u8 op, .int .i64 pl, .int .i64 nn, .string nm, .string ar, .string ex, .slice q l c] t ns FIN j wr vs s')) (fun _ _ i _ => l - (intOf i).toNat)
      case atStart => exact ⟨0, _, _, rfl, Nat.zero_le _, rfl, HST⟩
      case round =>
        obtain ⟨j, vs, s', rfl, hj, rfl, HI⟩ := hrel
        have hwr := HAL.out.trans (HI.out.below.mono HAL.out.size)
        have hbx := (HI.out.below.block _ (lt_of_block HBX.out)).trans HBX.out
        by_cases hlt : j < l
        · have hjk : j < t.ks.length := by rw [HSL.out.2.2.2.2]; exact hlt
          obtain ⟨b, o, qk, ck, rfl, hkid, c0, c1, c2, c3, c4, c5, c6, c7⟩ := (HT.out.below hwr).kids.get j hjk
          have hks : KidS w #[.int .u8 k, .int .u8 op, .int .i64 pl, .int .i64 nn, .string nm, .string ar, .string ex, .slice (some ⟨b, o, none⟩) l c] b (o + j * 8) [.int .u8 (tget t.ks j).h.k, .int .u8 (tget t.ks j).h.op, .int .i64 (tget t.ks j).h.pl, .int .i64 (tget t.ks j).h.n, .string (tget t.ks j).h.name, .string (tget t.ks j).h.arg, .string (tget t.ks j).h.exn, .slice qk (tget t.ks j).ks.length ck] wr := ⟨hbx, kid_cells (K := 0) c0 c1 c2 c3 c4 c5 c6 c7, hwr⟩
          have hdr := drop_tget t.ks j hjk
          have hfe := HI.out.eq
          have hle := HI.out.len
          rw [hdr] at hfe hle
          rw [visK_cons, looks_app, putL_app] at hfe
          rw [wts_cons] at hle
          have hwg := Term.wts_get hjk
          have HKS := Lib.hid hks; have HKID := Lib.hid hkid; have HFE := Lib.hid hfe; have HLE := Lib.hid hle; have HJK := Lib.hid hjk; have HWG := Lib.hid hwg
          clear hks hkid hfe hle hjk hwg hdr hwr hbx c0 c1 c2 c3 c4 c5 c6 c7
          go_wp2_with (fail)
          refine wp_region_held_drew (S := fun V => KidS w #[.int .u8 k, .int .u8 op, .int .i64 pl, .int .i64 nn, .string nm, .string ar, .string ex, .slice (some ⟨b, o, none⟩) l c] b (o + j * 8) [.int .u8 (tget t.ks j).h.k, .int .u8 (tget t.ks j).h.op, .int .i64 (tget t.ks j).h.pl, .int .i64 (tget t.ks j).h.n, .string (tget t.ks j).h.name, .string (tget t.ks j).h.arg, .string (tget t.ks j).h.exn, .slice qk (tget t.ks j).ks.length ck] V ∧ Below wr.heap.size wr V) (by kernel_rfl) ⟨HKS.out.later (Below.refl _ _).drew, (Below.refl _ _).drew⟩ (fun hHeld => ?_)
          have HS0 : Hid (KidS w #[.int .u8 k, .int .u8 op, .int .i64 pl, .int .i64 nn, .string nm, .string ar, .string ex, .slice (some ⟨b, o, none⟩) l c] b (o + j * 8) [.int .u8 (tget t.ks j).h.k, .int .u8 (tget t.ks j).h.op, .int .i64 (tget t.ks j).h.pl, .int .i64 (tget t.ks j).h.n, .string (tget t.ks j).h.name, .string (tget t.ks j).h.arg, .string (tget t.ks j).h.exn, .slice qk (tget t.ks j).ks.length ck] wr.drew ∧ Below wr.heap.size wr wr.drew) := Lib.hid ⟨HKS.out.later (Below.refl _ _).drew, (Below.refl _ _).drew⟩
          clear HKS
          generalize wr.drew = v0 at *
          refine wpAnyH_take (i := 0) (v := vs) rfl (by kernel_rfl) (by kernel_rfl) (by kernel_rfl) (fun _ _ _ h => h) (Or.inl ⟨by rfl, ?_⟩) (by assumption) ?_
          · intro w' hSw
            obtain ⟨⟨g0, g1, g2, g3, g4, g5, g6, g7⟩, d0, d1, d2, d3, d4, d5, d6, d7⟩ := cells8' hSw.1.box
            have c0 := hSw.1.kid 0 _ rfl; have c1 := hSw.1.kid 1 _ rfl; have c2 := hSw.1.kid 2 _ rfl; have c3 := hSw.1.kid 3 _ rfl; have c4 := hSw.1.kid 4 _ rfl; have c5 := hSw.1.kid 5 _ rfl; have c6 := hSw.1.kid 6 _ rfl; have c7 := hSw.1.kid 7 _ rfl
            simp only [Nat.add_zero] at c0
            first | go_simp | rfl
          try simp only [Act.put, List.getElem_toArray, List.getElem_cons_succ, List.getElem_cons_zero, List.setIfInBounds_toArray, List.set_cons_zero, List.set_cons_succ]
          refine wpAnyH_take (i := 1) (v := .pointer (some ⟨w.heap.size, 7, none⟩)) rfl (by kernel_rfl) (by kernel_rfl) (by kernel_rfl) (fun _ _ _ h => h) (Or.inl ⟨by rfl, ?_⟩) (by assumption) ?_
          · intro w' hSw
            obtain ⟨⟨g0, g1, g2, g3, g4, g5, g6, g7⟩, d0, d1, d2, d3, d4, d5, d6, d7⟩ := cells8' hSw.1.box
            have c0 := hSw.1.kid 0 _ rfl; have c1 := hSw.1.kid 1 _ rfl; have c2 := hSw.1.kid 2 _ rfl; have c3 := hSw.1.kid 3 _ rfl; have c4 := hSw.1.kid 4 _ rfl; have c5 := hSw.1.kid 5 _ rfl; have c6 := hSw.1.kid 6 _ rfl; have c7 := hSw.1.kid 7 _ rfl
            simp only [Nat.add_zero] at c0
            first | go_simp | rfl
          try simp only [Act.put, List.getElem_toArray, List.getElem_cons_succ, List.getElem_cons_zero, List.setIfInBounds_toArray, List.set_cons_zero, List.set_cons_succ]
          refine wpAnyH_take (i := 2) (v := .slice (some ⟨b, o, none⟩) l c) rfl (by kernel_rfl) (by kernel_rfl) (by kernel_rfl) (fun _ _ _ h => h) (Or.inl ⟨by rfl, ?_⟩) (by assumption) ?_
          · intro w' hSw
            obtain ⟨⟨g0, g1, g2, g3, g4, g5, g6, g7⟩, d0, d1, d2, d3, d4, d5, d6, d7⟩ := cells8' hSw.1.box
            have c0 := hSw.1.kid 0 _ rfl; have c1 := hSw.1.kid 1 _ rfl; have c2 := hSw.1.kid 2 _ rfl; have c3 := hSw.1.kid 3 _ rfl; have c4 := hSw.1.kid 4 _ rfl; have c5 := hSw.1.kid 5 _ rfl; have c6 := hSw.1.kid 6 _ rfl; have c7 := hSw.1.kid 7 _ rfl
            simp only [Nat.add_zero] at c0
            first | go_simp | rfl
          try simp only [Act.put, List.getElem_toArray, List.getElem_cons_succ, List.getElem_cons_zero, List.setIfInBounds_toArray, List.set_cons_zero, List.set_cons_succ]
          refine wpAnyH_take (i := 3) (v := .int .i64 (j : Int)) rfl (by kernel_rfl) (by kernel_rfl) (by kernel_rfl) (fun _ _ _ h => h) (Or.inl ⟨by rfl, ?_⟩) (by assumption) ?_
          · intro w' hSw
            obtain ⟨⟨g0, g1, g2, g3, g4, g5, g6, g7⟩, d0, d1, d2, d3, d4, d5, d6, d7⟩ := cells8' hSw.1.box
            have c0 := hSw.1.kid 0 _ rfl; have c1 := hSw.1.kid 1 _ rfl; have c2 := hSw.1.kid 2 _ rfl; have c3 := hSw.1.kid 3 _ rfl; have c4 := hSw.1.kid 4 _ rfl; have c5 := hSw.1.kid 5 _ rfl; have c6 := hSw.1.kid 6 _ rfl; have c7 := hSw.1.kid 7 _ rfl
            simp only [Nat.add_zero] at c0
            first | go_simp | rfl
          try simp only [Act.put, List.getElem_toArray, List.getElem_cons_succ, List.getElem_cons_zero, List.setIfInBounds_toArray, List.set_cons_zero, List.set_cons_succ]
          refine wpAnyH_take (i := 4) (v := .pointer (some ⟨b, o + j * 8, none⟩)) rfl (by kernel_rfl) (by kernel_rfl) (by kernel_rfl) (fun _ _ _ h => h) (Or.inl ⟨by rfl, ?_⟩) (by assumption) ?_
          · intro w' hSw
            obtain ⟨⟨g0, g1, g2, g3, g4, g5, g6, g7⟩, d0, d1, d2, d3, d4, d5, d6, d7⟩ := cells8' hSw.1.box
            have c0 := hSw.1.kid 0 _ rfl; have c1 := hSw.1.kid 1 _ rfl; have c2 := hSw.1.kid 2 _ rfl; have c3 := hSw.1.kid 3 _ rfl; have c4 := hSw.1.kid 4 _ rfl; have c5 := hSw.1.kid 5 _ rfl; have c6 := hSw.1.kid 6 _ rfl; have c7 := hSw.1.kid 7 _ rfl
            simp only [Nat.add_zero] at c0
            first | go_simp | rfl
          try simp only [Act.put, List.getElem_toArray, List.getElem_cons_succ, List.getElem_cons_zero, List.setIfInBounds_toArray, List.set_cons_zero, List.set_cons_succ]
          refine wpAnyH_take (i := 5) (v := .agg #[.int .u8 (tget t.ks j).h.k, .int .u8 (tget t.ks j).h.op, .int .i64 (tget t.ks j).h.pl, .int .i64 (tget t.ks j).h.n, .string (tget t.ks j).h.name, .string (tget t.ks j).h.arg, .string (tget t.ks j).h.exn, .slice qk (tget t.ks j).ks.length ck]) rfl (by kernel_rfl) (by kernel_rfl) (by kernel_rfl) (fun _ _ _ h => h) (Or.inl ⟨by rfl, ?_⟩) (by assumption) ?_
          · intro w' hSw
            obtain ⟨⟨g0, g1, g2, g3, g4, g5, g6, g7⟩, d0, d1, d2, d3, d4, d5, d6, d7⟩ := cells8' hSw.1.box
            have c0 := hSw.1.kid 0 _ rfl; have c1 := hSw.1.kid 1 _ rfl; have c2 := hSw.1.kid 2 _ rfl; have c3 := hSw.1.kid 3 _ rfl; have c4 := hSw.1.kid 4 _ rfl; have c5 := hSw.1.kid 5 _ rfl; have c6 := hSw.1.kid 6 _ rfl; have c7 := hSw.1.kid 7 _ rfl
            simp only [Nat.add_zero] at c0
            first | go_simp | rfl
          try simp only [Act.put, List.getElem_toArray, List.getElem_cons_succ, List.getElem_cons_zero, List.setIfInBounds_toArray, List.set_cons_zero, List.set_cons_succ]
          refine wpAnyH_take (i := 6) (v := vn) rfl (by kernel_rfl) (by kernel_rfl) (by kernel_rfl) (fun _ _ _ h => h) (Or.inl ⟨by rfl, ?_⟩) (by assumption) ?_
          · intro w' hSw
            obtain ⟨⟨g0, g1, g2, g3, g4, g5, g6, g7⟩, d0, d1, d2, d3, d4, d5, d6, d7⟩ := cells8' hSw.1.box
            have c0 := hSw.1.kid 0 _ rfl; have c1 := hSw.1.kid 1 _ rfl; have c2 := hSw.1.kid 2 _ rfl; have c3 := hSw.1.kid 3 _ rfl; have c4 := hSw.1.kid 4 _ rfl; have c5 := hSw.1.kid 5 _ rfl; have c6 := hSw.1.kid 6 _ rfl; have c7 := hSw.1.kid 7 _ rfl
            simp only [Nat.add_zero] at c0
            first | go_simp | rfl
          try simp only [Act.put, List.getElem_toArray, List.getElem_cons_succ, List.getElem_cons_zero, List.setIfInBounds_toArray, List.set_cons_zero, List.set_cons_succ]
          refine wpAnyH_take (i := 7) (v := .agg #[.int .u8 k, .int .u8 op, .int .i64 pl, .int .i64 nn, .string nm, .string ar, .string ex, .slice (some ⟨b, o, none⟩) l c]) rfl (by kernel_rfl) (by kernel_rfl) (by kernel_rfl) (fun _ _ _ h => h) (Or.inl ⟨by rfl, ?_⟩) (by assumption) ?_
          · intro w' hSw
            obtain ⟨⟨g0, g1, g2, g3, g4, g5, g6, g7⟩, d0, d1, d2, d3, d4, d5, d6, d7⟩ := cells8' hSw.1.box
            have c0 := hSw.1.kid 0 _ rfl; have c1 := hSw.1.kid 1 _ rfl; have c2 := hSw.1.kid 2 _ rfl; have c3 := hSw.1.kid 3 _ rfl; have c4 := hSw.1.kid 4 _ rfl; have c5 := hSw.1.kid 5 _ rfl; have c6 := hSw.1.kid 6 _ rfl; have c7 := hSw.1.kid 7 _ rfl
            simp only [Nat.add_zero] at c0
            first | go_simp | rfl
          try simp only [Act.put, List.getElem_toArray, List.getElem_cons_succ, List.getElem_cons_zero, List.setIfInBounds_toArray, List.set_cons_zero, List.set_cons_succ]
          refine wpAnyH_take (i := 8) (v := .int .i64 (j : Int)) rfl (by kernel_rfl) (by kernel_rfl) (by kernel_rfl) (fun _ _ _ h => h) (Or.inl ⟨by rfl, ?_⟩) (by assumption) ?_
          · intro w' hSw
            obtain ⟨⟨g0, g1, g2, g3, g4, g5, g6, g7⟩, d0, d1, d2, d3, d4, d5, d6, d7⟩ := cells8' hSw.1.box
            have c0 := hSw.1.kid 0 _ rfl; have c1 := hSw.1.kid 1 _ rfl; have c2 := hSw.1.kid 2 _ rfl; have c3 := hSw.1.kid 3 _ rfl; have c4 := hSw.1.kid 4 _ rfl; have c5 := hSw.1.kid 5 _ rfl; have c6 := hSw.1.kid 6 _ rfl; have c7 := hSw.1.kid 7 _ rfl
            simp only [Nat.add_zero] at c0
            first | go_simp | rfl
          try simp only [Act.put, List.getElem_toArray, List.getElem_cons_succ, List.getElem_cons_zero, List.setIfInBounds_toArray, List.set_cons_zero, List.set_cons_succ]
          refine wpAnyH_ready (rs := [9]) (by kernel_rfl) (by simp) ?_
          refine AllReadyH.cons rfl (fun K hK => ?_) AllReadyH.nil
          have HK2 := Lib.hid hK
          clear hK
          go_simp
          refine (boundD_walk v0 vn ns k op pl nn nm ar ex (some ⟨b, o, none⟩) l c j (HRN.out.below (HI.out.below.trans (HS0.out.2.mono HI.out.below.size))) (by have := HSL.out.2.1; omega) (fun hk => kids13 HND.out hlt hk)).mono ?_
          rintro e w1 ⟨v1, rfl, h1, h2⟩
          have hs1 := And.intro (HS0.out.1.later h2) (HS0.out.2.trans (h2.mono HS0.out.2.size))
          refine HK2.out _ _ hs1 (fun hHeld => ?_)
          have HS1 := Lib.hid hs1; have HR1 := Lib.hid h1; have HB1 := Lib.hid h2
          clear HK2 hs1 h1 h2
          try simp only [Act.put, List.getElem_toArray, List.getElem_cons_succ, List.getElem_cons_zero, List.setIfInBounds_toArray, List.set_cons_zero, List.set_cons_succ]
          clear K
          refine wpAnyH_ready (rs := [10]) (by kernel_rfl) (by simp) ?_
          refine AllReadyH.cons rfl (fun K hK => ?_) AllReadyH.nil
          have HK2 := Lib.hid hK
          clear hK
          go_simp
          refine (IH.out (tget t.ks j) _ qk _ ck w1 vs v1 s' (boundP ns ⟨k, op, pl, nn, nm, ar, ex⟩ j) (by have := HM.out; have := HSL.out.2.2.1; have := HWG.out; omega) (HKID.out.below HS1.out.2) (ok_kid HKOK.out HJK.out) (HI.out.row.below HS1.out.2) HR1.out (by have := HLE.out; omega) (by have := boundP_len ns ⟨k, op, pl, nn, nm, ar, ex⟩ j; have := HSL.out.2; have := HWG.out; omega)).mono ?_
          rintro e w2 ⟨v2, rfl, h1, h2⟩
          have hs2 := And.intro (HS1.out.1.later h2) (HS1.out.2.trans (h2.mono HS1.out.2.size))
          refine HK2.out _ _ hs2 (fun hHeld => ?_)
          have HS2 := Lib.hid hs2; have HR2 := Lib.hid h1; have HB2 := Lib.hid h2
          clear HK2 hs2 h1 h2
          try simp only [Act.put, List.getElem_toArray, List.getElem_cons_succ, List.getElem_cons_zero, List.setIfInBounds_toArray, List.set_cons_zero, List.set_cons_succ]
          clear K
          refine wpAnyH_ready (rs := [11]) (by kernel_rfl) (by simp) ?_
          refine AllReadyH.cons rfl (fun K hK => ?_) AllReadyH.nil
          have HK2 := Lib.hid hK
          clear hK
          go_simp
          refine HK2.out _ _ HS2.out (fun hHeld => ?_)
          clear HK2
          try simp only [Act.put, List.getElem_toArray, List.getElem_cons_succ, List.getElem_cons_zero, List.setIfInBounds_toArray, List.set_cons_zero, List.set_cons_succ]
          clear K
          refine wpAnyH_done (by kernel_rfl) ?_ _
          clear hHeld
          have hnx : FrI w #[.int .u8 k, .int .u8 op, .int .i64 pl, .int .i64 nn, .string nm, .string ar, .string ex, .slice (some ⟨b, o, none⟩) l c] t ns FIN (j + 1) w2 v2 (putL (looks freeP (visT (tget t.ks j) (boundP ns ⟨k, op, pl, nn, nm, ar, ex⟩ j))) s') := by
            refine ⟨HI.out.below.trans (HS2.out.2.mono HI.out.below.size), HR2.out, ?_, ?_⟩
            · have h1 := putL_len (looks freeP (visT (tget t.ks j) (boundP ns ⟨k, op, pl, nn, nm, ar, ex⟩ j))) s'
              have h2 : (looks freeP (visT (tget t.ks j) (boundP ns ⟨k, op, pl, nn, nm, ar, ex⟩ j))).length = wt (tget t.ks j) := by unfold looks; rw [List.length_map, visT_len _ _ _ (Nat.le_refl _)]
              have := HLE.out
              omega
            · have := HFE.out
              rw [HSL.out.2.2.2.1] at this ⊢
              exact this
          have HNX := Lib.hid hnx
          clear hnx
          go_wp2_with (fail)
          go_roundw
          case rel => exact ⟨j + 1, _, _, rfl, by omega, by go_num, HNX⟩
          case measure => simp [intOf]; omega
        · obtain rfl : j = l := by omega
          have hfe := HI.out.eq
          rw [List.drop_eq_nil_of_le (by rw [HSL.out.2.2.2.2]; exact Nat.le_refl _), visK_nil] at hfe
          have HFE := Lib.hid hfe; have HWR := Lib.hid hwr
          clear hfe hwr hbx
          go_wp2_with (fail)
          go_ret
          exact ⟨_, rfl, by rw [← HFE.out]; exact HI.out.row, HWR.out⟩
end Scope
end Go.Proofs.YtkcadkjpneoobaaDoor
