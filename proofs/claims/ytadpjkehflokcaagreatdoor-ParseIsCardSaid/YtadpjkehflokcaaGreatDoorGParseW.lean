/-The document's parser: an expression. (Written by wip/tools/expr.py.) The document's parser: an expression. (Written by wip/tools/expr.py.) The document's parser: two rows become one. -/
import Derived.Test.YtadpjkehflokcaaGreatDoorGParseV
namespace Go.Proofs.YtadpjkehflokcaaGreatDoor
open Go.RowKit
set_option linter.unusedVariables false
set_option linter.unusedSimpArgs false
namespace Parse
open Token (Tok tel ToksAt)
open Term (Tm Hd TmIs Flat tcells veil Reads HdOk Kids)
open Words (str_no str_yes sel)

set_option maxRecDepth 100000 in
set_option maxHeartbeats 51200000 in
theorem dex_level (g n c : Nat) (ts : List Tok) (m : Nat) (hP : DParts (partsF ts m) g n c ts) (hL : DLevel (levelF ts m 0) 0 g n c ts) (w : World) (i : Nat) (R : St × Tm) (hR : RowAt w g n c ts) (hs : i < n) (nwLet : textOf ts i ≠ wLet) (nwLetrec : textOf ts i ≠ wLetrec) (nwFn : textOf ts i ≠ wFn) (nwIf : textOf ts i ≠ wIf) (nwTry : textOf ts i ≠ wTry) (hF : exprF ts (m + 1) ⟨i, false⟩ = some R) :
    Calls Tryz.prog 24 #[.agg #[.slice (some ⟨g, 0, none⟩) n c, .int .i64 (i : Int), .bool false]] w (DEnd g n c R w) := by
  have hF0 : levelF ts m 0 ⟨i, false⟩ = some R := by
    have e : exprF ts (m + 1) ⟨i, false⟩ = levelF ts m 0 ⟨i, false⟩ := by
      rw [exprF]
      simp only [Bool.false_eq_true, if_false]
      rw [if_neg nwLet, if_neg nwLetrec, if_neg nwFn, if_neg nwIf, if_neg nwTry]
    rw [← e]; exact hF
  have HF0 := Lib.hid hF0; have HS := Lib.hid hs
  clear hF0
  have hps := ps_new w g n c ⟨i, false⟩ hs
  obtain ⟨s0, s1', s2'⟩ := (hR.below hps.below).toks i (by rw [hR.len]; exact hs)
  have hgl := World.block_lt_of_cell? _ _ s0
  simp only at hgl
  have hi1 : (i : Int) < (n : Int) := by omega
  have hi0 : (0 : Int) ≤ (i : Int) := by omega
  have hi2 : (i : Int) ≤ 70000 := by have := hR.small; omega
  have hpl : -9223372036854775808 ≤ ((tel ts i).a : Int) ∧ ((tel ts i).a : Int) ≤ 9223372036854775807 := by have := hR.places i hs; omega
  have hpa : plA ts i = ((tel ts i).a : Int) := rfl
  have hrow := fun W (hb : Below w.heap.size w W) => hR.below hb
  have htx := text_walk (((w.alloc (.cells #[.slice (some ⟨g, 0, none⟩) n c, .int .i64 (i : Int), .bool false] 56)).alloc (.cells #[.slice none 0 0, .int .i64 0, .bool false] 56)).alloc (.cells #[.int .u8 0, .int .u8 0, .int .i64 0, .int .i64 0, .string ⟨#[]⟩, .string ⟨#[]⟩, .string ⟨#[]⟩, .slice none 0 0] 29)) g n c ts i false (hR.below hps.below) hs
  have qwLet : ((textOf ts i).toList == [108, 101, 116]) = false := by rw [← etl_wLet]; exact str_no nwLet
  have qwLetrec : ((textOf ts i).toList == [108, 101, 116, 114, 101, 99]) = false := by rw [← etl_wLetrec]; exact str_no nwLetrec
  have qwFn : ((textOf ts i).toList == [102, 110]) = false := by rw [← etl_wFn]; exact str_no nwFn
  have qwIf : ((textOf ts i).toList == [105, 102]) = false := by rw [← etl_wIf]; exact str_no nwIf
  have qwTry : ((textOf ts i).toList == [116, 114, 121]) = false := by rw [← etl_wTry]; exact str_no nwTry
  clear nwLet nwLetrec nwFn nwIf nwTry
  have HPS := Lib.hid hps; have HTX := Lib.hid htx; have HROW := Lib.hid hrow; have HP := Lib.hid hP; have HLV := Lib.hid hL; have HR := Lib.hid hR; have HPL := Lib.hid hpl
  clear hps htx hrow hP hL hR hF hpl
  go_enter Tryz.func24, Tryz.ntmps24
  go_wp2_with (fail)
  refine HTX.out.mono ?_
  rintro e w2 ⟨rfl, hb2⟩
  have HPSa := Lib.hid ((HPS.out.call hb2).call ((al_new (W := w2) (.cells #[] 29)).trans ((al_new (.cells #[.int .u8 0, .int .u8 0, .int .i64 0, .int .i64 0, .string ⟨#[]⟩, .string ⟨#[]⟩, .string ⟨#[]⟩, .slice none 0 0] 29)).mono (al_new (W := w2) (.cells #[] 29)).size)))
  have hz7 : ((w2.alloc (.cells #[] 29)).alloc (.cells #[.int .u8 0, .int .u8 0, .int .i64 0, .int .i64 0, .string ⟨#[]⟩, .string ⟨#[]⟩, .string ⟨#[]⟩, .slice none 0 0] 29)).heap[w2.heap.size + 1]? = some (.cells #[.int .u8 0, .int .u8 0, .int .i64 0, .int .i64 0, .string ⟨#[]⟩, .string ⟨#[]⟩, .string ⟨#[]⟩, .slice none 0 0] 29 (0, 0)) := by rw [← show (w2.alloc (.cells #[] 29)).heap.size = w2.heap.size + 1 from by simp]; exact heap_alloc_new _ _
  have HZ7 := Lib.hid hz7
  have hsz2 : w.heap.size + 3 ≤ w2.heap.size := (HPS.out.call hb2).size
  clear hb2 HPS HTX s0 s1' s2' hgl hz7
  generalize hxx : textOf ts i = x at *
  clear hxx
  obtain ⟨⟨x0, x1, x2⟩, y0, y1, y2⟩ := cellsS HPSa.out.b1
  go_wp2_with (fail)
  have hlv := HLV.out ((w2.alloc (.cells #[] 29)).alloc (.cells #[.int .u8 0, .int .u8 0, .int .i64 0, .int .i64 0, .string ⟨#[]⟩, .string ⟨#[]⟩, .string ⟨#[]⟩, .slice none 0 0] 29)) ⟨i, false⟩ R (HROW.out ((w2.alloc (.cells #[] 29)).alloc (.cells #[.int .u8 0, .int .u8 0, .int .i64 0, .int .i64 0, .string ⟨#[]⟩, .string ⟨#[]⟩, .string ⟨#[]⟩, .slice none 0 0] 29)) HPSa.out.below) HS.out HF0.out
  rw [show ((0 : Nat) : Int) = 0 from rfl] at hlv
  have HLV2 := Lib.hid hlv
  clear hlv
  refine HLV2.out.mono ?_
  rintro e w3 ⟨h, q, l, d, rfl, hT, hb3⟩
  have HPS3 := Lib.hid (HPSa.out.call hb3)
  have HTF3 := Lib.hid (TmFr.new hT)
  have hB : w.heap.size + 3 ≤ ((w2.alloc (.cells #[] 29)).alloc (.cells #[.int .u8 0, .int .u8 0, .int .i64 0, .int .i64 0, .string ⟨#[]⟩, .string ⟨#[]⟩, .string ⟨#[]⟩, .slice none 0 0] 29)).heap.size := HPSa.out.size
  have HB := Lib.hid hB
  clear hT hb3 hB x0 x1 x2 y0 y1 y2 HLV2
  go_wp2_with (first | (refine wpList_stS (w.heap.size + 1) 2 27 (some ⟨g, 0, none⟩) n c R.1.i R.1.bad _ _ _ rfl rfl HPS3.out.b2 ?_; intro w4 p4; have HE4 := Lib.hid ((EndV.of_ps' HPS3.out).two p4); have P4 := Lib.hid p4; clear p4) | (refine wpList_stT (w.heap.size + 1 + 1) 3 28 h.k h.op h.pl h.n h.name h.arg h.exn q l d _ _ _ _ _ _ _ _ rfl rfl (bx_put HPS3.out.b3 P4.out (by omega)) ?_; intro w5 p5; have HE5 := Lib.hid (HE4.out.three p5); have P5 := Lib.hid p5; clear p5))
  have hr2 := (P5.out.off (w.heap.size + 1) (by omega)).trans P4.out.here
  have hr3 := P5.out.here
  obtain ⟨⟨r0, r1, r2⟩, d0, d1, d2⟩ := cellsS hr2
  obtain ⟨⟨g0, g1, g2, g3, g4, g5, g6, g7⟩, e0, e1, e2, e3, e4, e5, e6, e7⟩ := cells8' hr3
  have rl2 := lt_of_block hr2
  have rl3 := lt_of_block hr3
  clear hr2 hr3
  refine bodyPost_ret (v := .tuple #[.agg #[.slice (some ⟨g, 0, none⟩) n c, .int .i64 R.1.i, .bool R.1.bad], .agg #[.int .u8 h.k, .int .u8 h.op, .int .i64 h.pl, .int .i64 h.n, .string h.name, .string h.arg, .string h.exn, .slice q l d]]) (by simp [results, Tryz.results24, go_sem, r0, r1, r2, g0, g1, g2, g3, g4, g5, g6, g7, rl2, rl3]) rfl ⟨h, q, l, d, rfl, HTF3.out.fin HB.out HE5.out, HE5.out.below⟩
end Parse
end Go.Proofs.YtadpjkehflokcaaGreatDoor
namespace Go.Proofs.YtadpjkehflokcaaGreatDoor
open Go.RowKit
set_option linter.unusedVariables false
set_option linter.unusedSimpArgs false
namespace Parse
open Token (Tok tel ToksAt)
open Term (Tm Hd TmIs Flat tcells veil Reads HdOk Kids)
open Words (str_no str_yes sel)

set_option maxRecDepth 100000 in
set_option maxHeartbeats 51200000 in
theorem dex_bad (g n c : Nat) (ts : List Tok) (w : World) (i : Nat) (hs : i < n) :
    Calls Tryz.prog 24 #[.agg #[.slice (some ⟨g, 0, none⟩) n c, .int .i64 (i : Int), .bool true]] w (DEnd g n c (⟨i, true⟩, zeroT) w) := by
  have hb : ∀ A B C : Obj, Below w.heap.size w (((w.alloc A).alloc B).alloc C) := fun A B C => (((Below.refl _ _).alloc (Nat.le_refl _) _).alloc (by simp) _).alloc (by simp; omega) _
  have HB := Lib.hid hb
  clear hb
  go_enter Tryz.func24, Tryz.ntmps24
  go_wp2_with (fail)
  refine bodyPost_ret (v := .tuple #[.agg #[.slice (some ⟨g, 0, none⟩) n c, .int .i64 (i : Int), .bool true], .agg #[.int .u8 0, .int .u8 0, .int .i64 0, .int .i64 0, .string ⟨#[]⟩, .string ⟨#[]⟩, .string ⟨#[]⟩, .slice none 0 0]]) (by simp [results, Tryz.results24, go_sem]) rfl ⟨⟨0, 0, 0, 0, ⟨#[]⟩, ⟨#[]⟩, ⟨#[]⟩⟩, none, 0, 0, rfl, node0 _ (dhd_any (by omega) (by omega) (by omega) e_small e_small e_small) none, HB.out _ _ _⟩
end Parse
end Go.Proofs.YtadpjkehflokcaaGreatDoor
namespace Go.Proofs.YtadpjkehflokcaaGreatDoor
open Go.RowKit
set_option linter.unusedVariables false
set_option linter.unusedSimpArgs false
namespace Parse
open Token (Tok tel ToksAt)
open Term (Tm Hd TmIs Flat tcells veil Reads HdOk Kids)
open Words (str_no str_yes sel)
theorem parts_len (ts : List Tok) : ∀ (m : Nat) (ws : List ByteArray) (s : St) (R : St × List Tm), partsF ts m ws s = some R → R.2.length = ws.length := by
  intro m
  induction m with
  | zero => intro ws s R h; exact absurd h (by simp [partsF])
  | succ m ih =>
    intro ws s R h
    cases ws with
    | nil =>
      rw [partsF] at h
      rw [← Option.some.inj h]; rfl
    | cons x ws =>
      rw [partsF] at h
      obtain ⟨r, _, h2⟩ := Option.bind_eq_some_iff.1 h
      obtain ⟨q, hq, h3⟩ := Option.map_eq_some_iff.1 h2
      rw [← h3]
      show (r.2 :: q.2).length = _
      rw [List.length_cons, ih _ _ _ hq, List.length_cons]
theorem bx_grow {W W3 : World} {N : Nat} {O : Obj} {row : Option Nat} (h : W.heap[N]? = some O) (hgr : W.grownBy W3 row) (hn : ∀ g, row = some g → N < g) : W3.heap[N]? = some O :=
  (hgr.block N (lt_of_block h) (fun e => by have := hn N e.symm; omega)).trans h
theorem PS.grow {w : World} {g n c : Nat} {s : St} {W W3 : World} {row : Option Nat} (k : PS w g n c s W) (hgr : W.grownBy W3 row) (hr : ∀ b, row = some b → w.heap.size + 3 ≤ b) : PS w g n c s W3 :=
  ⟨k.below.grown hgr k.below.size (fun b e => by have := hr b e; omega), bx_grow k.b1 hgr (fun b e => by have := hr b e; omega), bx_grow k.b2 hgr (fun b e => by have := hr b e; omega), bx_grow k.b3 hgr (fun b e => by have := hr b e; omega), k.lt⟩
theorem row_at {B d : Nat} {q : Option Addr} {us : List Tm} {W : World} (h : RowM B (.slice q us.length d) us W) (hp : 0 < us.length) : ∃ g, q = some ⟨g, 0, none⟩ := by
  obtain ⟨xs, h1, _⟩ := h
  obtain ⟨g, e, _⟩ := ownT_at h1 hp
  exact ⟨g, e⟩
theorem rowM_cat {B1 B2 g2 d2 : Nat} {A1 A2 W : World} {v1 : Value} {us1 us2 : List Tm} (k1 : RowFr B1 A1 v1 us1 W) (k2 : RowFr B2 A2 (.slice (some ⟨g2, 0, none⟩) us2.length d2) us2 W) (hz : A1.heap.size ≤ B2) (hB : B1 ≤ B2) :
    ∃ xs ys, W.ownsRow B1 29 8 v1 us1.length xs ∧ ys.length = us2.length * 8 ∧ (∀ j u, ys[j]? = some u → W.cell? ((⟨g2, 0, none⟩ : Addr).add j) = some u) ∧ (∀ u ∈ ys, u.oneCell' = true) ∧ (∀ b, v1.ownBlock = some b → B1 ≤ b) ∧
      ∀ v' W3, W3.ownsRow B1 29 8 v' (us1.length + us2.length) (xs ++ ys) → W.grownBy W3 v1.ownBlock → (v'.ownBlock = v1.ownBlock ∨ v'.ownBlock = some W.heap.size) → RowM B1 v' (us1 ++ us2) W3 := by
  have hlt := k1.row.lt
  obtain ⟨xs, h1, f1⟩ := k1.now
  obtain ⟨ys, h2, f2⟩ := k2.now
  refine ⟨xs, ys, h1, h2.1, fun j u hu => ?_, f2.cells1, fun b e => (hlt b e).1, fun v' W3 ho hgr hat => ⟨xs ++ ys, by rw [List.length_append]; exact ho, ?_⟩⟩
  · exact h2.cells (g := g2) rfl j u hu
  · have key : ∀ b, b < W.heap.size → B1 ≤ b → v1.ownBlock ≠ some b → seenT B1 v' b = true ∧ W3.heap[b]? = W.heap[b]? := fun b hb h1 h2 => by
      refine ⟨seenT_iff.2 ⟨h1, ?_⟩, hgr.block b hb (fun e => h2 e.symm)⟩
      rcases hat with e | e <;> rw [e]
      · exact h2
      · intro e2; injection e2 with e2; omega
    refine (f1.reads (Term.veil_to fun b hb hp => ?_)).append (f2.reads (Term.veil_to fun b hb hp => ?_))
    · obtain ⟨h3, h4⟩ := seenT_iff.1 hp
      exact key b hb h3 h4
    · obtain ⟨h3, h4⟩ := seenT_iff.1 hp
      exact key b hb (by omega) (fun e => by have := (hlt b e).2; omega)
end Parse
end Go.Proofs.YtadpjkehflokcaaGreatDoor
