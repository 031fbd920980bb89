/-The program's reading of tokens: parts with signs. The program's reading of tokens: parts with signs. The program's reading of tokens: unaries, one behind the other. -/
import Derived.Test.YtadpjkehflokcaaGreatDoorGParseC
import Derived.Deep.LoopGhost
import Derived.RegionTactic
namespace Go.Proofs.YtadpjkehflokcaaGreatDoor
open Go.RowKit
set_option linter.unusedVariables false
set_option linter.unusedSimpArgs false
namespace Parse
open Token (Tok tel ToksAt)
open Term (Tm Hd TmIs Kids ret_bool ret_i64 Reads veil Flat tcells)
open Words (str_no str_yes NumLaid)
open Chars (isin BytesAt)

theorem strs_of {W : World} {b : Nat} {ss : List ByteArray} {ty : TypeId} (h : W.heap[b]? = some (.cells (ss.map Value.string).toArray ty (0, 0))) : Words.StrsAt W (some ⟨b, 0, none⟩) ss := by
  refine .inr ⟨b, 0, rfl, fun i hi => ?_⟩
  unfold Words.sel
  simp [World.cell?, h, List.getD_eq_getElem?_getD, List.getElem?_eq_getElem hi]
theorem signs_words (k : Nat) (hk : k < 4) : (∀ x ∈ signsF k, x ∈ wordsL) ∧ (∀ x ∈ signsF k, x ∈ [wPut, wLess, wIs, wAdd, wSub, wMul]) ∧ (signsF k).length ≤ maxLen := by
  have : k = 0 ∨ k = 1 ∨ k = 2 ∨ k = 3 := by omega
  rcases this with rfl | rfl | rfl | rfl <;> (refine ⟨?_, ?_, ?_⟩ <;> first | (intro x hx; simp [signsF] at hx; rcases hx with rfl | rfl <;> simp [wordsL]) | (intro x hx; simp [signsF] at hx; subst hx; simp [wordsL]) | (simp [signsF, maxLen]))
theorem in_mem {l : List ByteArray} {x : ByteArray} (h : inF l x = true) : x ∈ l := by
  unfold inF at h
  obtain ⟨y, hy, e⟩ := List.any_eq_true.1 h
  rw [← of_decide_eq_true e]; exact hy

set_option maxRecDepth 10000 in
set_option maxHeartbeats 12800000 in
theorem once_walk (m k Kp : Nat) (hk : k < 2) (hE : ∀ m', m' ≤ m → PE Kp (fun ts m s => levelF ts m (k + 1) s) m') (hK : ∀ args w, (callFunc Kp args).run Tryz.prog w = .ok (.enter Kp args) w) (w : World) (P g n c i b : Nat) (ty : TypeId) (ts : List Tok) (R : St × Tm) (h : PR w P g n c i ts) (hL : Lay w P)
    (hs : w.heap[b]? = some (.cells ((signsF k).map Value.string).toArray ty (0, 0))) (hbP : b ≠ P) (hR : levelF ts (m + 1) k ⟨i, false⟩ = some R) :
    Calls Tryz.prog 91 #[.pointer (some ⟨P, 0, none⟩), .func (.func Kp) #[.pointer (some ⟨P, 0, none⟩)] #[], .slice (some ⟨b, 0, none⟩) (signsF k).length (signsF k).length] w (PartEnd P g n c ts R w) := by
  unfold levelF at hR
  rw [if_neg (by omega)] at hR
  obtain ⟨r1, hr1, hl⟩ := Option.bind_eq_some_iff.1 hR
  obtain ⟨sw1, sw2, sw3⟩ := signs_words k (by omega)
  have hbox : ∀ O : Obj, Below w.heap.size w (w.alloc O) := fun O => ((Below.refl _ _).alloc (Nat.le_refl _) O)
  have hpt := fun O => hE m (Nat.le_refl _) (w.alloc O) P g n c i ts r1 (h.below (hbox O)) (hL.below (hbox O)) hr1
  have hold := h.old
  have hbl := lt_of_block hs
  have HPT := Lib.hid hpt; have HOLD := Lib.hid hold; have HL := Lib.hid hL; have HE := Lib.hid hE; have HS := Lib.hid hs; have HLP := Lib.hid hl; have HSW := Lib.hid (And.intro sw1 (And.intro sw2 sw3)); have HBL := Lib.hid (And.intro hbP hbl)
  have HK2 := Lib.hid hk
  generalize hss : signsF k = ss at *
  have HSS := Lib.hid hss
  clear hpt h hbox hold hL hE hs hl sw1 sw2 sw3 hbl hbP hR hr1 hk hss
  go_enter Tryz.func91, Tryz.ntmps91
  go_wp2_with (fail)
  refine (HPT.out _).mono ?_
  rintro e y0 (⟨hbd, ⟨h, p, l, d, rfl, hT⟩, ho, hp⟩ | ⟨hbd, rfl, ho⟩)
  · obtain ⟨h3, h4⟩ := box_off ho HOLD.out.1
    have hbx : ∀ O : Obj, Below y0.heap.size y0 (y0.alloc O) := fun O => ((Below.refl _ _).alloc (Nat.le_refl _) O)
    have his := fun O => is_walk (y0.alloc O) P g n c r1.1.i ts (some ⟨b, 0, none⟩) ss.length ss.length ss (hp.below (hbx O)) rfl HSW.out.2.2 (strs_of (((hbx O).block _ (lt_of_block (box_later HS.out h4 HBL.out.1))).trans (box_later HS.out h4 HBL.out.1))) HSW.out.1
    have HIS := Lib.hid his; have HR := Lib.hid h3; have HO := Lib.hid h4; have HP := Lib.hid hp; have HT := Lib.hid hT; have HBD := Lib.hid hbd; have HSZ := Lib.hid (lt_of_block h3); have HBX := Lib.hid hbx
    clear his h3 h4 hp hT hbd ho hbx
    go_wp2_with (fail)
    refine (HIS.out _).mono ?_
    rintro e y1 ⟨rfl, hb1⟩
    obtain ⟨ht0, hb2⟩ := one_box hb1
    obtain ⟨⟨t0, t1, t2, t3, t4, t5, t6, t7⟩, u0, u1, u2, u3, u4, u5, u6, u7⟩ := cells8' ht0
    have tl := lt_of_block ht0
    have hr := (hb2.block _ HSZ.out).trans HR.out
    obtain ⟨⟨r0', r1', r2', r3', r4', r5', r6', r7'⟩, f0, f1, f2, f3, f4, f5, f6, f7⟩ := cells8' hr
    have rl := lt_of_block hr
    have HB2 := Lib.hid hb2; have HT0 := Lib.hid ht0; have HR2 := Lib.hid hr
    cases hin : inF ss (textOf ts r1.1.i)
    · have hRe : R = r1 := by
        have := HLP.out
        cases m with
        | zero => unfold loopF at this; cases this
        | succ m => unfold loopF at this; rw [HSS.out, hin, if_neg (by simp)] at this; injection this with this; rw [← this]
      subst hRe
      clear hb1 hb2 ht0 hr hin
      go_wp2_with (fail)
      refine bodyPost_ret (v := .agg #[.int .u8 h.k, .int .u8 h.op, .int .i64 h.pl, .int .i64 h.n, .string h.name, .string h.arg, .string h.exn, .slice p l d]) (by simp [results, Tryz.results91, go_sem, r0', r1', r2', r3', r4', r5', r6', r7']) rfl ?_
      refine part_pass (w1 := w.alloc (.cells #[.int .u8 0, .int .u8 0, .int .i64 0, .int .i64 0, .string ⟨#[]⟩, .string ⟨#[]⟩, .string ⟨#[]⟩, .slice none 0 0] 29)) HBD.out (HT.out.reads' (veil_below HB2.out)) (HP.out.below HB2.out) (HO.out.trans (Off.of_below HB2.out)) (by simp) (by simp) HOLD.out (fun k hk => set8_other _ _ _ _ _ _ _ _ _ _ _ hk) (Below.set8 w _ _ (Nat.le_refl _) _ _ _ _ _ _ _ _)
    · have hsx : ∃ m' r2, m' ≤ m ∧ levelF ts m' (k + 1) ⟨r1.1.i + 1, false⟩ = some r2 ∧ R = (r2.1, putF (textOf ts r1.1.i) r1.2 r2.2) := by
        have hl := HLP.out
        cases m with
        | zero => unfold loopF at hl; cases hl
        | succ m =>
          unfold loopF at hl
          rw [HSS.out, if_pos ⟨HBD.out, hin⟩, HBD.out] at hl
          obtain ⟨r2, h1, h2⟩ := Option.bind_eq_some_iff.1 hl
          rw [if_pos HK2.out] at h2
          injection h2 with h2
          exact ⟨m, r2, by omega, h1, h2.symm⟩
      obtain ⟨m', r2, hm', hr2, hRe⟩ := hsx
      have hxm := HSW.out.2.1 _ (in_mem hin)
      have hsg := signed_walk m' Kp _ (HE.out m' hm') hK (fun b => decide (w.heap.size + 1 ≤ b ∧ b ≠ y0.heap.size)) y1 P g n c r1.1.i ts (textOf ts r1.1.i) r1.2 h p l d r2 (HP.out.below HB2.out) (HL.out.off (HO.out.trans (Off.of_below HB2.out))) hxm rfl hr2
        ⟨decide_eq_false (by have := HOLD.out.1; omega), fun b hb => decide_eq_true (by have := HSZ.out; omega)⟩ (HT.out.reads' (Term.veil_to fun b hbw hv => by
          have hv := of_decide_eq_true hv
          have hs1 : w.heap.size + 1 ≤ b := by simpa using hv
          exact ⟨decide_eq_true ⟨hs1, by omega⟩, HB2.out.block b hbw⟩))
      have HSG := Lib.hid hsg; have HRE := Lib.hid hRe
      clear hb1 hb2 ht0 hr hin hr2 hRe hxm hsg
      go_wp2_with (fail)
      refine HSG.out.mono ?_
      rintro e y2 (⟨hbd, ⟨h2, p2, l2, d2, rfl, hT⟩, ho4, hp4⟩ | ⟨hbd, rfl, ho4⟩)
      · clear t0 t1 t2 t3 t4 t5 t6 t7 u0 u1 u2 u3 u4 u5 u6 u7 r0' r1' r2' r3' r4' r5' r6' r7' f0 f1 f2 f3 f4 f5 f6 f7 tl rl
        have ht0 := box_later HT0.out ho4 (by have := HOLD.out.1; have := HSZ.out; omega)
        obtain ⟨⟨t0, t1, t2, t3, t4, t5, t6, t7⟩, u0, u1, u2, u3, u4, u5, u6, u7⟩ := cells8' ht0
        have tl := lt_of_block ht0
        have hr := box_later HR2.out ho4 (by have := HOLD.out.1; omega)
        obtain ⟨⟨r0', r1', r2', r3', r4', r5', r6', r7'⟩, f0, f1, f2, f3, f4, f5, f6, f7⟩ := cells8' hr
        have rl := lt_of_block hr
        have hne1 : ¬ y0.heap.size = w.heap.size := by have := HSZ.out; omega
        have hne2 : ¬ w.heap.size = y0.heap.size := by have := HSZ.out; omega
        have H := Lib.hid (And.intro hbd (And.intro hT (And.intro ho4 hp4)))
        clear hbd hT ho4 hp4 ht0 hr
        go_wp2_with (fail)
        refine bodyPost_ret (v := .agg #[.int .u8 h2.k, .int .u8 h2.op, .int .i64 h2.pl, .int .i64 h2.n, .string h2.name, .string h2.arg, .string h2.exn, .slice p2 l2 d2]) (by simp [results, Tryz.results91, go_sem, rl, hne1, hne2, r0', r1', r2', r3', r4', r5', r6', r7']) rfl ?_
        have hb3 := Below.set8 w y2 y0.heap.size (Nat.le_of_lt HSZ.out) (.int .u8 h2.k) (.int .u8 h2.op) (.int .i64 h2.pl) (.int .i64 h2.n) (.string h2.name) (.string h2.arg) (.string h2.exn) (.slice p2 l2 d2)
        have hb4 := hb3.trans (Below.set8 w _ w.heap.size (Nat.le_refl _) (.int .u8 h2.k) (.int .u8 h2.op) (.int .i64 h2.pl) (.int .i64 h2.n) (.string h2.name) (.string h2.arg) (.string h2.exn) (.slice p2 l2 d2))
        rw [HRE.out]
        refine .inl ⟨H.out.1, ⟨h2, p2, l2, d2, rfl, H.out.2.1.reads' (Term.veil_to fun b hbw hv => ?_)⟩, ((HO.out.trans (Off.of_below HB2.out)).trans H.out.2.2.1).then hb4, H.out.2.2.2.keep hb4 HOLD.out.1 HOLD.out.2⟩
        have hv := of_decide_eq_true hv
        exact ⟨decide_eq_true (by omega), (set8_other _ _ _ _ _ _ _ _ _ _ _ (by omega)).trans (set8_other _ _ _ _ _ _ _ _ _ _ _ hv.2)⟩
      · unfold thrown strayV
        have H := Lib.hid (And.intro (show R.1 = ⟨r2.1.i, true⟩ by rw [HRE.out]; exact bad_eq hbd) ((HO.out.trans (Off.of_below HB2.out)).trans ho4))
        clear hbd ho4
        go_wp2_with (fail)
        exact ⟨rfl, part_thrown H.out.1 H.out.2⟩
  · unfold thrown strayV
    obtain ⟨h3, h4⟩ := box_off ho HOLD.out.1
    have hRe := loop_bad ts hbd HLP.out
    have H := Lib.hid (And.intro (show R.1 = ⟨r1.1.i, true⟩ by rw [hRe]; exact bad_eq hbd) h4)
    clear hbd ho h3 h4 hRe
    go_wp2_with (fail)
    exact ⟨rfl, part_thrown H.out.1 H.out.2⟩
end Parse
end Go.Proofs.YtadpjkehflokcaaGreatDoor
namespace Go.Proofs.YtadpjkehflokcaaGreatDoor
open Go.RowKit
set_option linter.unusedVariables false
set_option linter.unusedSimpArgs false
namespace Parse
open Token (Tok tel ToksAt)
open Term (Tm Hd TmIs Kids ret_bool ret_i64 Reads veil Flat tcells)
open Words (str_no str_yes NumLaid)
open Chars (isin BytesAt)
theorem set8_block {W : World} {N : Nat} {c0 c1 c2 c3 c4 c5 c6 c7 a b c d e f g h : Value} {ty : TypeId} (hN : W.heap[N]? = some (.cells #[c0, c1, c2, c3, c4, c5, c6, c7] ty (0, 0))) :
    ((((((((W.setCell ⟨N, 0, none⟩ a).setCell ⟨N, 1, none⟩ b).setCell ⟨N, 2, none⟩ c).setCell ⟨N, 3, none⟩ d).setCell ⟨N, 4, none⟩ e).setCell ⟨N, 5, none⟩ f).setCell ⟨N, 6, none⟩ g).setCell ⟨N, 7, none⟩ h).heap[N]? = some (.cells #[a, b, c, d, e, f, g, h] ty (0, 0)) := by
  have h0 := set_block (j := 0) (v := a) hN
  rw [show (#[c0, c1, c2, c3, c4, c5, c6, c7] : Array Value).setIfInBounds 0 a = #[a, c1, c2, c3, c4, c5, c6, c7] from rfl] at h0
  have h1 := set_block (j := 1) (v := b) h0
  rw [show (#[a, c1, c2, c3, c4, c5, c6, c7] : Array Value).setIfInBounds 1 b = #[a, b, c2, c3, c4, c5, c6, c7] from rfl] at h1
  have h2 := set_block (j := 2) (v := c) h1
  rw [show (#[a, b, c2, c3, c4, c5, c6, c7] : Array Value).setIfInBounds 2 c = #[a, b, c, c3, c4, c5, c6, c7] from rfl] at h2
  have h3 := set_block (j := 3) (v := d) h2
  rw [show (#[a, b, c, c3, c4, c5, c6, c7] : Array Value).setIfInBounds 3 d = #[a, b, c, d, c4, c5, c6, c7] from rfl] at h3
  have h4 := set_block (j := 4) (v := e) h3
  rw [show (#[a, b, c, d, c4, c5, c6, c7] : Array Value).setIfInBounds 4 e = #[a, b, c, d, e, c5, c6, c7] from rfl] at h4
  have h5 := set_block (j := 5) (v := f) h4
  rw [show (#[a, b, c, d, e, c5, c6, c7] : Array Value).setIfInBounds 5 f = #[a, b, c, d, e, f, c6, c7] from rfl] at h5
  have h6 := set_block (j := 6) (v := g) h5
  rw [show (#[a, b, c, d, e, f, c6, c7] : Array Value).setIfInBounds 6 g = #[a, b, c, d, e, f, g, c7] from rfl] at h6
  have h7 := set_block (j := 7) (v := h) h6
  rw [show (#[a, b, c, d, e, f, g, c7] : Array Value).setIfInBounds 7 h = #[a, b, c, d, e, f, g, h] from rfl] at h7
  exact h7
set_option maxRecDepth 10000 in
set_option maxHeartbeats 12800000 in
theorem row_walk (m k Kp : Nat) (hk : 2 ≤ k ∧ k < 4) (hE : ∀ m', m' ≤ m → PE Kp (fun ts m s => levelF ts m (k + 1) s) m') (hK : ∀ args w, (callFunc Kp args).run Tryz.prog w = .ok (.enter Kp args) w) (w : World) (P g n c i b : Nat) (ty : TypeId) (ts : List Tok) (R : St × Tm) (h : PR w P g n c i ts) (hL : Lay w P)
    (hs : w.heap[b]? = some (.cells ((signsF k).map Value.string).toArray ty (0, 0))) (hbP : b ≠ P) (hR : levelF ts (m + 1) k ⟨i, false⟩ = some R) :
    Calls Tryz.prog 136 #[.pointer (some ⟨P, 0, none⟩), .func (.func Kp) #[.pointer (some ⟨P, 0, none⟩)] #[], .slice (some ⟨b, 0, none⟩) (signsF k).length (signsF k).length] w (PartEnd P g n c ts R w) := by
  unfold levelF at hR
  rw [if_neg (by omega)] at hR
  obtain ⟨r1, hr1, hl⟩ := Option.bind_eq_some_iff.1 hR
  obtain ⟨sw1, sw2, sw3⟩ := signs_words k hk.2
  have hbox : ∀ O : Obj, Below w.heap.size w (w.alloc O) := fun O => ((Below.refl _ _).alloc (Nat.le_refl _) O)
  have hpt := fun O => hE m (Nat.le_refl _) (w.alloc O) P g n c i ts r1 (h.below (hbox O)) (hL.below (hbox O)) hr1
  have hold := h.old
  have hbl := lt_of_block hs
  have HPT := Lib.hid hpt; have HOLD := Lib.hid hold; have HL := Lib.hid hL; have HE := Lib.hid hE; have HS := Lib.hid hs; have HLP := Lib.hid hl; have HSW := Lib.hid (And.intro sw1 (And.intro sw2 sw3)); have HBL := Lib.hid (And.intro hbP hbl)
  have HK2 := Lib.hid hk
  generalize hss : signsF k = ss at *
  have HSS := Lib.hid hss
  clear hpt h hbox hold hL hE hs hl sw1 sw2 sw3 hbl hbP hR hr1 hk hss
  go_enter Tryz.func136, Tryz.ntmps136
  go_wp2_with (fail)
  refine (HPT.out _).mono ?_
  rintro e y0 (⟨hbd, ⟨h, p, l, d, rfl, hT⟩, ho, hp⟩ | ⟨hbd, rfl, ho⟩)
  · obtain ⟨h3, h4⟩ := box_off ho HOLD.out.1
    have HR := Lib.hid h3; have HO := Lib.hid h4; have HP := Lib.hid hp; have HT := Lib.hid hT; have HBD := Lib.hid hbd; have HSZ := Lib.hid (lt_of_block h3)
    clear h3 h4 hp hT hbd ho
    go_wp2_with (fail)
    go_loopg [] m (fun (gk : Nat) (wr : World) => Hid (∃ s a h p l d, s.bad = false ∧ loopF ts gk k s a = some R ∧ gk ≤ m ∧ wr.heap[y0.heap.size]? = some (.cells #[.int .u8 h.k, .int .u8 h.op, .int .i64 h.pl, .int .i64 h.n, .string h.name, .string h.arg, .string h.exn, .slice p l d] 29 (0, 0)) ∧ TmIs (veil (fun b => decide (w.heap.size + 1 ≤ b ∧ b ≠ y0.heap.size)) wr) h p l d a ∧ Off P w wr ∧ PR wr P g n c s.i ts ∧ wr.heap[w.heap.size]? = some (.cells #[.int .u8 0, .int .u8 0, .int .i64 0, .int .i64 0, .string ⟨#[]⟩, .string ⟨#[]⟩, .string ⟨#[]⟩, .slice none 0 0] 29 (0, 0))))
    case atStart =>
      have hbx : ∀ O : Obj, Below y0.heap.size y0 (y0.alloc O) := fun O => ((Below.refl _ _).alloc (Nat.le_refl _) O)
      refine Lib.hid ⟨r1.1, r1.2, h, p, l, d, HBD.out, HLP.out, Nat.le_refl _, heap_alloc_new _ _, HT.out.reads' (Term.veil_to fun b hbw hv => ?_), HO.out.trans (Off.of_below (hbx _)), HP.out.below (hbx _), ((hbx _).block _ HSZ.out).trans HR.out⟩
      have hv := of_decide_eq_true hv
      have hs1 : w.heap.size + 1 ≤ b := by simpa using hv
      exact ⟨decide_eq_true ⟨hs1, by omega⟩, (hbx _).block b hbw⟩
    case round =>
      obtain ⟨s, a, h, p, l, d, hbd, hlp, hgm, ht0, hT, hO, hP, hRb⟩ := hrel.out
      have his := is_walk wr P g n c s.i ts (some ⟨b, 0, none⟩) ss.length ss.length ss hP rfl HSW.out.2.2 (strs_of (box_later HS.out hO HBL.out.1)) HSW.out.1
      have HIS := Lib.hid his; have HT := Lib.hid hT; have HO := Lib.hid hO; have HP := Lib.hid hP; have HT0 := Lib.hid ht0; have HBD := Lib.hid hbd; have HLP := Lib.hid hlp; have HGM := Lib.hid hgm; have HRB := Lib.hid hRb
      clear hrel hbd hlp hgm ht0 hT hO hP his hRb
      go_wp2_with (fail)
      refine HIS.out.mono ?_
      rintro e y1 ⟨rfl, hb2⟩
      have ht0 := (hb2.block _ (lt_of_block HT0.out)).trans HT0.out
      obtain ⟨⟨t0, t1, t2, t3, t4, t5, t6, t7⟩, u0, u1, u2, u3, u4, u5, u6, u7⟩ := cells8' ht0
      have tl := lt_of_block ht0
      have hr := (hb2.block _ (lt_of_block HRB.out)).trans HRB.out
      have HB2 := Lib.hid hb2; have HT1 := Lib.hid ht0; have HR1 := Lib.hid hr
      cases hin : inF ss (textOf ts s.i)
      · have hRe : R = (s, a) := by
          have := HLP.out
          cases gk with
          | zero => unfold loopF at this; cases this
          | succ m => unfold loopF at this; rw [HSS.out, hin, if_neg (by simp)] at this; injection this with this; rw [← this]
        obtain ⟨⟨r0', r1', r2', r3', r4', r5', r6', r7'⟩, f0, f1, f2, f3, f4, f5, f6, f7⟩ := cells8' hr
        have rl := lt_of_block hr
        have HRE := Lib.hid hRe
        clear hb2 ht0 hin hr hRe
        go_wp2_with (fail)
        refine bodyPost_ret (v := .agg #[.int .u8 h.k, .int .u8 h.op, .int .i64 h.pl, .int .i64 h.n, .string h.name, .string h.arg, .string h.exn, .slice p l d]) (by simp [results, Tryz.results136, go_sem, r0', r1', r2', r3', r4', r5', r6', r7']) rfl ?_
        rw [HRE.out]
        have hbw := Below.set8 w y1 w.heap.size (Nat.le_refl _) (.int .u8 h.k) (.int .u8 h.op) (.int .i64 h.pl) (.int .i64 h.n) (.string h.name) (.string h.arg) (.string h.exn) (.slice p l d)
        refine .inl ⟨HBD.out, ⟨h, p, l, d, rfl, HT.out.reads' (Term.veil_to fun b hbv hv => ?_)⟩, (HO.out.trans (Off.of_below HB2.out)).then hbw, (HP.out.below HB2.out).keep hbw HOLD.out.1 HOLD.out.2⟩
        have hv := of_decide_eq_true hv
        exact ⟨decide_eq_true (by omega), (set8_other _ _ _ _ _ _ _ _ _ _ _ (by omega)).trans (HB2.out.block b hbv)⟩
      · have hsx : ∃ m' r2, gk = m' + 1 ∧ levelF ts m' (k + 1) ⟨s.i + 1, false⟩ = some r2 ∧ loopF ts m' k r2.1 (putF (textOf ts s.i) a r2.2) = some R := by
          have hl := HLP.out
          cases gk with
          | zero => unfold loopF at hl; cases hl
          | succ m' =>
            unfold loopF at hl
            rw [HSS.out, if_pos ⟨HBD.out, hin⟩, HBD.out] at hl
            obtain ⟨r2, h1, h2⟩ := Option.bind_eq_some_iff.1 hl
            rw [if_neg (by have := HK2.out; omega)] at h2
            exact ⟨m', r2, rfl, h1, h2⟩
        obtain ⟨m', r2, hm', hr2, hl2⟩ := hsx
        have hxm := HSW.out.2.1 _ (in_mem hin)
        have hsg := signed_walk m' Kp _ (HE.out m' (by have := HGM.out; omega)) hK (fun b => decide (w.heap.size + 1 ≤ b ∧ b ≠ y0.heap.size)) y1 P g n c s.i ts (textOf ts s.i) a h p l d r2 (HP.out.below HB2.out) (HL.out.off (HO.out.trans (Off.of_below HB2.out))) hxm rfl hr2
          ⟨decide_eq_false (by have := HOLD.out.1; omega), fun b hb => decide_eq_true (by have := HSZ.out; omega)⟩ (HT.out.reads' (veil_below HB2.out))
        have HSG := Lib.hid hsg; have HL2 := Lib.hid hl2; have HM' := Lib.hid hm'
        clear hb2 ht0 hr hin hr2 hl2 hxm hsg hm'
        go_wp2_with (fail)
        refine HSG.out.mono ?_
        rintro e y2 (⟨hbd, ⟨h2, p2, l2, d2, rfl, hT⟩, ho4, hp4⟩ | ⟨hbd, rfl, ho4⟩)
        · clear t0 t1 t2 t3 t4 t5 t6 t7 u0 u1 u2 u3 u4 u5 u6 u7 tl
          have ht0 := box_later HT1.out ho4 (by have := HOLD.out.1; have := HSZ.out; omega)
          obtain ⟨⟨t0, t1, t2, t3, t4, t5, t6, t7⟩, u0, u1, u2, u3, u4, u5, u6, u7⟩ := cells8' ht0
          have tl := lt_of_block ht0
          have H := Lib.hid (And.intro hbd (And.intro hT (And.intro ho4 hp4))); have HT2 := Lib.hid ht0
          have HR2 := Lib.hid (box_later HR1.out ho4 (by have := HOLD.out.1; omega))
          clear hbd hT ho4 hp4 ht0
          go_wp2_with (fail)
          go_roundg m'
          case measure => have := HM'.out; omega
          case rel =>
            have hb3 := Below.set8 w y2 y0.heap.size (Nat.le_of_lt HSZ.out) (.int .u8 h2.k) (.int .u8 h2.op) (.int .i64 h2.pl) (.int .i64 h2.n) (.string h2.name) (.string h2.arg) (.string h2.exn) (.slice p2 l2 d2)
            refine Lib.hid ⟨r2.1, putF (textOf ts s.i) a r2.2, h2, p2, l2, d2, H.out.1, HL2.out, by have := HM'.out; have := HGM.out; omega, ?_, H.out.2.1.reads' (Term.veil_to fun b hbv hv => ⟨hv, set8_other _ _ _ _ _ _ _ _ _ _ _ (of_decide_eq_true hv).2⟩), ((HO.out.trans (Off.of_below HB2.out)).trans H.out.2.2.1).then hb3, H.out.2.2.2.keep hb3 HOLD.out.1 HOLD.out.2, (set8_other _ _ _ _ _ _ _ _ _ _ _ (by have := HSZ.out; omega)).trans HR2.out⟩
            exact set8_block HT2.out
        · unfold thrown strayV
          have hRe := loop_bad ts hbd HL2.out
          have H := Lib.hid (And.intro (show R.1 = ⟨r2.1.i, true⟩ by rw [hRe]; exact bad_eq hbd) ((HO.out.trans (Off.of_below HB2.out)).trans ho4))
          clear hbd ho4 hRe
          go_wp2_with (fail)
          exact ⟨rfl, part_thrown H.out.1 H.out.2⟩
  · unfold thrown strayV
    obtain ⟨h3, h4⟩ := box_off ho HOLD.out.1
    have hRe := loop_bad ts hbd HLP.out
    have H := Lib.hid (And.intro (show R.1 = ⟨r1.1.i, true⟩ by rw [hRe]; exact bad_eq hbd) h4)
    clear hbd ho h3 h4 hRe
    go_wp2_with (fail)
    exact ⟨rfl, part_thrown H.out.1 H.out.2⟩
end Parse
end Go.Proofs.YtadpjkehflokcaaGreatDoor
namespace Go.Proofs.YtadpjkehflokcaaGreatDoor
open Go.RowKit
set_option linter.unusedVariables false
set_option linter.unusedSimpArgs false
namespace Parse
open Token (Tok tel ToksAt)
open Term (Tm Hd TmIs Kids ret_bool ret_i64 Reads veil Flat tcells)
open Words (str_no str_yes NumLaid)
open Chars (isin BytesAt)
set_option maxRecDepth 10000 in
set_option maxHeartbeats 25600000 in
theorem apply_walk (m : Nat) (hU : ∀ m', m' ≤ m → PE 156 unaryF m') (w : World) (P g n c i : Nat) (ts : List Tok) (R : St × Tm) (h : PR w P g n c i ts) (hL : Lay w P) (hR : applyF ts (m + 1) ⟨i, false⟩ = some R) :
    Calls Tryz.prog 146 #[.pointer (some ⟨P, 0, none⟩)] w (PartEnd P g n c ts R w) := by
  unfold applyF at hR
  obtain ⟨r1, hr1, hl⟩ := Option.bind_eq_some_iff.1 hR
  have hbox : ∀ O : Obj, Below w.heap.size w (w.alloc O) := fun O => ((Below.refl _ _).alloc (Nat.le_refl _) O)
  have hpt := fun O => hU m (Nat.le_refl _) (w.alloc O) P g n c i ts r1 (h.below (hbox O)) (hL.below (hbox O)) hr1
  have hold := h.old
  have HPT := Lib.hid hpt; have HOLD := Lib.hid hold; have HL := Lib.hid hL; have HU := Lib.hid hU; have HLP := Lib.hid hl
  clear hpt h hbox hold hL hU hl hR hr1
  go_enter Tryz.func146, Tryz.ntmps146
  go_wp2_with (fail)
  refine (HPT.out _).mono ?_
  rintro e y0 (⟨hbd, ⟨h, p, l, d, rfl, hT⟩, ho, hp⟩ | ⟨hbd, rfl, ho⟩)
  rotate_left
  · unfold thrown strayV
    obtain ⟨h3, h4⟩ := box_off ho HOLD.out.1
    have hRe := aloop_bad ts hbd HLP.out
    have H := Lib.hid (And.intro (show R.1 = ⟨r1.1.i, true⟩ by rw [hRe]; exact bad_eq hbd) h4)
    clear hbd ho h3 h4 hRe
    go_wp2_with (fail)
    exact ⟨rfl, part_thrown H.out.1 H.out.2⟩
  obtain ⟨h3, h4⟩ := box_off ho HOLD.out.1
  have HR := Lib.hid h3; have HO := Lib.hid h4; have HP := Lib.hid hp; have HT := Lib.hid hT; have HBD := Lib.hid hbd; have HSZ := Lib.hid (lt_of_block h3)
  clear h3 h4 hp hT hbd ho
  go_wp2_with (fail)
  go_loopg [] m (fun (gk : Nat) (wr : World) => Hid (∃ s a h p l d, s.bad = false ∧ aloopF ts gk s a = some R ∧ gk ≤ m ∧ wr.heap[y0.heap.size]? = some (.cells #[.int .u8 h.k, .int .u8 h.op, .int .i64 h.pl, .int .i64 h.n, .string h.name, .string h.arg, .string h.exn, .slice p l d] 29 (0, 0)) ∧ TmIs (veil (fun b => decide (w.heap.size + 1 ≤ b ∧ b ≠ y0.heap.size)) wr) h p l d a ∧ Off P w wr ∧ PR wr P g n c s.i ts ∧ wr.heap[w.heap.size]? = some (.cells #[.int .u8 0, .int .u8 0, .int .i64 0, .int .i64 0, .string ⟨#[]⟩, .string ⟨#[]⟩, .string ⟨#[]⟩, .slice none 0 0] 29 (0, 0))))
  case atStart =>
    have hbx : ∀ O : Obj, Below y0.heap.size y0 (y0.alloc O) := fun O => ((Below.refl _ _).alloc (Nat.le_refl _) O)
    refine Lib.hid ⟨r1.1, r1.2, h, p, l, d, HBD.out, HLP.out, Nat.le_refl _, heap_alloc_new _ _, HT.out.reads' (Term.veil_to fun b hbw hv => ?_), HO.out.trans (Off.of_below (hbx _)), HP.out.below (hbx _), ((hbx _).block _ HSZ.out).trans HR.out⟩
    have hv := of_decide_eq_true hv
    have hs1 : w.heap.size + 1 ≤ b := by simpa using hv
    exact ⟨decide_eq_true ⟨hs1, by omega⟩, (hbx _).block b hbw⟩
  case round =>
    obtain ⟨s, a, h, p, l, d, hbd, hlp, hgm, ht0, hT, hO, hP, hRb⟩ := hrel.out
    have hst : startsF ts s = (decide ((tel ts s.i).k = 1 ∨ (tel ts s.i).k = 2) || inF [wGet, wRef, wFst, wSnd, wRaise, wOpen] (textOf ts s.i)) := rfl
    have hbx : ∀ O : Obj, Below wr.heap.size wr (wr.alloc O) := fun O => ((Below.refl _ _).alloc (Nat.le_refl _) O)
    have his := fun t => is_walk (wr.alloc (.cells #[.string wGet, .string wRef, .string wFst, .string wSnd, .string wRaise, .string wOpen] t)) P g n c s.i ts (some ⟨wr.heap.size, 0, none⟩) 6 6 [wGet, wRef, wFst, wSnd, wRaise, wOpen] (hP.below (hbx _)) rfl (by unfold maxLen; omega) (strs_alloc wr t [wGet, wRef, wFst, wSnd, wRaise, wOpen]) (by intro x hx; simp at hx; rcases hx with rfl | rfl | rfl | rfl | rfl | rfl <;> simp [wordsL])
    have hhs := fun W (hb : Below wr.heap.size wr W) t => has_walk (W.alloc (.cells #[.int .u8 1, .int .u8 2] t)) P g n c s.i ts (some ⟨W.heap.size, 0, none⟩) 2 2 [1, 2] ((hP.below hb).below ((Below.refl _ _).alloc (Nat.le_refl _) _)) rfl (by unfold maxLen; omega) (fun W' hb' => by
      have hx := bytes_alloc W t [1, 2]
      rcases hx with hh | ⟨b, o, e, hc⟩
      · cases hh
      · exact .inr ⟨b, o, e, fun j hj => (hb'.cell (p := ⟨b, o + j, none⟩) (World.block_lt_of_cell? _ _ (hc j hj))).trans (hc j hj)⟩)
    have HIS := Lib.hid his; have HHS := Lib.hid hhs; have HTR := Lib.hid hT; have HOR := Lib.hid hO; have HPR := Lib.hid hP; have HT0 := Lib.hid ht0; have HBD := Lib.hid hbd; have HLP := Lib.hid hlp; have HGM := Lib.hid hgm; have HRB := Lib.hid hRb; have HST := Lib.hid hst
    clear hrel hbd hlp hgm ht0 hT hO hP his hRb hst hhs hbx
    go_wp2_with (fail)
    refine (HIS.out _).mono ?_
    rintro e y1 ⟨rfl, hb1⟩
    obtain ⟨_, hb2⟩ := one_box hb1
    cases hin : inF [wGet, wRef, wFst, wSnd, wRaise, wOpen] (textOf ts s.i)
    · have HIN := Lib.hid hin; have HB2 := Lib.hid hb2
      clear hb1 hb2 hin
      go_wp2_with (fail)
      refine (HHS.out y1 HB2.out _).mono ?_
      rintro e y2 ⟨rfl, hb3⟩
      obtain ⟨_, hb4⟩ := one_box hb3
      have hb5 := HB2.out.trans (hb4.mono HB2.out.size)
      clear hb3 hb4 HB2
      cases hkd : isin [1, 2] (tel ts s.i).k
      · have hst : startsF ts s = false := by
          rw [HST.out, HIN.out]
          have : ¬ ((tel ts s.i).k = 1 ∨ (tel ts s.i).k = 2) := by
            unfold isin at hkd
            simpa using hkd
          rw [decide_eq_false this]; rfl
        have hRe : R = (s, a) := by
          have := HLP.out
          cases gk with
          | zero => unfold aloopF at this; cases this
          | succ m => unfold aloopF at this; rw [hst, if_neg (by simp)] at this; injection this with this; rw [← this]
        have hr := (hb5.block _ (lt_of_block HRB.out)).trans HRB.out
        have ht0 := (hb5.block _ (lt_of_block HT0.out)).trans HT0.out
        obtain ⟨⟨t0, t1, t2, t3, t4, t5, t6, t7⟩, u0, u1, u2, u3, u4, u5, u6, u7⟩ := cells8' ht0
        obtain ⟨⟨r0', r1', r2', r3', r4', r5', r6', r7'⟩, f0, f1, f2, f3, f4, f5, f6, f7⟩ := cells8' hr
        have rl := lt_of_block hr
        have tl := lt_of_block ht0
        have HRE := Lib.hid hRe; have HB2 := Lib.hid hb5
        clear hb5 ht0 hr hRe hkd hst
        go_wp2_with (fail)
        refine bodyPost_ret (v := .agg #[.int .u8 h.k, .int .u8 h.op, .int .i64 h.pl, .int .i64 h.n, .string h.name, .string h.arg, .string h.exn, .slice p l d]) (by simp [results, Tryz.results146, go_sem, r0', r1', r2', r3', r4', r5', r6', r7']) rfl ?_
        rw [HRE.out]
        have hbw := Below.set8 w y2 w.heap.size (Nat.le_refl _) (.int .u8 h.k) (.int .u8 h.op) (.int .i64 h.pl) (.int .i64 h.n) (.string h.name) (.string h.arg) (.string h.exn) (.slice p l d)
        refine .inl ⟨HBD.out, ⟨h, p, l, d, rfl, HTR.out.reads' (Term.veil_to fun b hbv hv => ?_)⟩, (HOR.out.trans (Off.of_below HB2.out)).then hbw, (HPR.out.below HB2.out).keep hbw HOLD.out.1 HOLD.out.2⟩
        have hv := of_decide_eq_true hv
        exact ⟨decide_eq_true (by omega), (set8_other _ _ _ _ _ _ _ _ _ _ _ (by omega)).trans (HB2.out.block b hbv)⟩
      · have hst : startsF ts s = true := by
          rw [HST.out]
          have : (tel ts s.i).k = 1 ∨ (tel ts s.i).k = 2 := by
            unfold isin at hkd
            simpa using hkd
          rw [decide_eq_true this]; rfl
        clear HST
        have HST := Lib.hid hst
        have HYZ := Lib.hid (Nat.lt_of_lt_of_le (lt_of_block HT0.out) hb5.size)
        have HR1 := Lib.hid ((hb5.block _ (lt_of_block HRB.out)).trans HRB.out)
        have HT1 := Lib.hid ((hb5.block _ (lt_of_block HT0.out)).trans HT0.out)
        have HTM := Lib.hid (HTR.out.reads' (veil_below hb5)); have HO1 := Lib.hid (HOR.out.trans (Off.of_below (P := P) hb5)); have HP1 := Lib.hid (HPR.out.below hb5)
        clear hb5 hkd hst HTR HOR HPR HRB HT0 HIS HHS HIN
        have hsx : ∃ m' r2, gk = m' + 1 ∧ unaryF ts m' ⟨s.i, false⟩ = some r2 ∧ aloopF ts m' r2.1 (node 10 a.h.pl [a, r2.2]) = some R := by
          have hl := HLP.out
          cases gk with
          | zero => unfold aloopF at hl; cases hl
          | succ m' =>
            unfold aloopF at hl
            rw [if_pos ⟨HBD.out, HST.out⟩] at hl
            obtain ⟨r2, h1, h2⟩ := Option.bind_eq_some_iff.1 hl
            rw [good_eq HBD.out] at h1
            exact ⟨m', r2, rfl, h1, h2⟩
        obtain ⟨m', r2, hm', hr2, hl2⟩ := hsx
        have hrun := fun W (hb : Below y2.heap.size y2 W) => HU.out m' (by have := HGM.out; omega) W P g n c s.i ts r2 (HP1.out.below hb) (HL.out.off (HO1.out.trans (Off.of_below hb))) hr2
        have HRUN := Lib.hid hrun; have HL2 := Lib.hid hl2; have HM' := Lib.hid hm'
        have hdr : Below y2.heap.size y2 y2.drew := (Below.refl _ _).drew
        have HDR := Lib.hid hdr
        clear hr2 hl2 hm' hrun hdr
        go_wp2_with (fail)
        refine wp_region_any (by kernel_rfl) ?_
        change wpAny _ _ _ _ _ _ _ (World.drew _)
        refine wpAny_take (i := 0) (v := .agg #[.int .u8 10, .int .u8 0, .int .i64 0, .int .i64 0, .string ⟨#[]⟩, .string ⟨#[]⟩, .string ⟨#[]⟩]) rfl (by kernel_rfl) (by kernel_rfl) (by kernel_rfl) (fun _ _ _ h => h) (Or.inl ⟨by rfl, ?_⟩) ?_
        · intro w'
          go_simp
        try simp only [Act.put, List.setIfInBounds_toArray, List.set_cons_zero, List.set_cons_succ]
        refine wpAny_take (i := 2) (v := .pointer (some ⟨P, 0, none⟩)) rfl (by kernel_rfl) (by kernel_rfl) (by kernel_rfl) (fun _ _ _ h => h) (Or.inl ⟨by rfl, ?_⟩) ?_
        · intro w'
          go_simp
        try simp only [Act.put, List.setIfInBounds_toArray, List.set_cons_zero, List.set_cons_succ]
        refine wpAny_ready (rs := [1, 3]) (by kernel_rfl) (by simp) ?_
        refine AllReady.cons rfl (fun K hK => ?_) (AllReady.cons rfl (fun K hK => ?_) AllReady.nil)
        · have HK := Lib.hid hK
          clear hK
          obtain ⟨⟨q0, q1, q2, q3, q4, q5, q6, q7⟩, e0, e1, e2, e3, e4, e5, e6, e7⟩ := cells8' HT1.out
          go_simp
          refine HK.out _ _ ?_
          try simp only [Act.put, List.setIfInBounds_toArray, List.set_cons_zero, List.set_cons_succ]
          clear HK K q0 q1 q2 q3 q4 q5 q6 q7 e0 e1 e2 e3 e4 e5 e6 e7
          refine wpAny_ready (rs := [3]) (by kernel_rfl) (by simp) ?_
          refine AllReady.cons rfl (fun K hK => ?_) AllReady.nil
          have HK := Lib.hid hK
          clear hK
          go_simp
          refine (HRUN.out _ HDR.out).mono ?_
          rintro e y3 (⟨hbd, ⟨h2, p2, l2, d2, rfl, hT2⟩, ho4, hp4⟩ | ⟨hbd, rfl, ho4⟩)
          rotate_left
          · unfold thrown strayV
            have hRe := aloop_bad ts hbd HL2.out
            have H := Lib.hid (And.intro (show R.1 = ⟨r2.1.i, true⟩ by rw [hRe]; exact bad_eq hbd) ((HO1.out.trans (Off.of_below HDR.out)).trans ho4))
            exact ⟨rfl, part_thrown H.out.1 H.out.2⟩
          have hX := box_later HT1.out (P := P) (w := y2) (w' := y3) ((Off.of_below HDR.out).trans ho4) (by have := HOLD.out.1; have := HSZ.out; omega)
          have hjn := joined_walk y3 (fun b => decide (w.heap.size + 1 ≤ b ∧ b ≠ y0.heap.size)) a r2.2 10 0 0 h.k h.op h.pl h.n h2.k h2.op h2.pl h2.n h.name h.arg h.exn h2.name h2.arg h2.exn p p2 l d l2 d2
            (fun b hb => decide_eq_true (by have := HSZ.out; have := ho4.size; have := HYZ.out; have hz : y2.drew.heap.size = y2.heap.size := rfl; omega))
            (HTM.out.reads' (Term.veil_to fun b hbv hv => ⟨hv, ho4.block b hbv (by have hv := of_decide_eq_true hv; have := HOLD.out.1; omega)⟩))
            (hT2.reads' (Term.veil_to fun b hbv hv => ⟨decide_eq_true (by have hv := of_decide_eq_true hv; have := HSZ.out; have := HYZ.out; have hz : y2.drew.heap.size = y2.heap.size := rfl; omega), rfl⟩)) (by omega) (by omega)
          have HR2 := Lib.hid (box_later HR1.out (P := P) (w := y2) (w' := y3) ((Off.of_below HDR.out).trans ho4) (by have := HOLD.out.1; omega))
          have H := Lib.hid (And.intro hbd (And.intro ((HO1.out.trans (Off.of_below HDR.out)).trans ho4) hp4)); have HJ := Lib.hid hjn; have HX := Lib.hid hX
          unfold headV at HJ
          clear hbd hT2 ho4 hp4 hjn hX
          refine HK.out _ _ ?_
          try simp only [Act.put, List.setIfInBounds_toArray, List.set_cons_zero, List.set_cons_succ]
          clear HK K
          refine wpAny_ready (rs := [4]) (by kernel_rfl) (by simp) ?_
          refine AllReady.cons rfl (fun K hK => ?_) AllReady.nil
          have HK := Lib.hid hK
          clear hK
          go_simp
          refine HJ.out.mono ?_
          rintro e y4 ⟨q, rfl, hT3, hb3⟩
          have hX := (hb3.block _ (lt_of_block HX.out)).trans HX.out
          have HR3 := Lib.hid ((hb3.block _ (lt_of_block HR2.out)).trans HR2.out)
          have HT3 := Lib.hid hT3; have HB3 := Lib.hid hb3; have HX3 := Lib.hid hX
          clear hT3 hb3 hX
          refine HK.out _ _ ?_
          try simp only [Act.put, List.setIfInBounds_toArray, List.set_cons_zero, List.set_cons_succ]
          clear HK K
          refine wpAny_ready (rs := [5]) (by kernel_rfl) (by simp) ?_
          refine AllReady.cons rfl (fun K hK => ?_) AllReady.nil
          have HK := Lib.hid hK
          clear hK
          obtain ⟨⟨t0, t1, t2, t3, t4, t5, t6, t7⟩, u0, u1, u2, u3, u4, u5, u6, u7⟩ := cells8' HX3.out
          have tl := lt_of_block HX3.out
          go_simp
          refine HK.out _ _ ?_
          clear HK K
          refine wpAny_done (by kernel_rfl) ?_ _
          go_wp2_with (fail)
          go_roundg m'
          case measure => have := HM'.out; omega
          case rel =>
            have hb4 := Below.set8 w y4 y0.heap.size (Nat.le_of_lt HSZ.out) (.int .u8 10) (.int .u8 0) (.int .i64 a.h.pl) (.int .i64 0) (.string ⟨#[]⟩) (.string ⟨#[]⟩) (.string ⟨#[]⟩) (.slice q 2 2)
            exact Lib.hid ⟨r2.1, node 10 a.h.pl [a, r2.2], ⟨10, 0, a.h.pl, 0, ⟨#[]⟩, ⟨#[]⟩, ⟨#[]⟩⟩, q, 2, 2, H.out.1, HL2.out, by have := HM'.out; have := HGM.out; omega, set8_block HX3.out, HT3.out.reads' (Term.veil_to fun b hbv hv => ⟨hv, set8_other _ _ _ _ _ _ _ _ _ _ _ (of_decide_eq_true hv).2⟩), (H.out.2.1.trans (Off.of_below HB3.out)).then hb4, (H.out.2.2.below HB3.out).keep hb4 HOLD.out.1 HOLD.out.2, (set8_other _ _ _ _ _ _ _ _ _ _ _ (by have := HSZ.out; omega)).trans HR3.out⟩
        · have HK := Lib.hid hK
          clear hK
          go_simp
          refine (HRUN.out _ HDR.out).mono ?_
          rintro e y3 (⟨hbd, ⟨h2, p2, l2, d2, rfl, hT2⟩, ho4, hp4⟩ | ⟨hbd, rfl, ho4⟩)
          rotate_left
          · unfold thrown strayV
            have hRe := aloop_bad ts hbd HL2.out
            have H := Lib.hid (And.intro (show R.1 = ⟨r2.1.i, true⟩ by rw [hRe]; exact bad_eq hbd) ((HO1.out.trans (Off.of_below HDR.out)).trans ho4))
            exact ⟨rfl, part_thrown H.out.1 H.out.2⟩
          have hX := box_later HT1.out (P := P) (w := y2) (w' := y3) ((Off.of_below HDR.out).trans ho4) (by have := HOLD.out.1; have := HSZ.out; omega)
          have hjn := joined_walk y3 (fun b => decide (w.heap.size + 1 ≤ b ∧ b ≠ y0.heap.size)) a r2.2 10 0 0 h.k h.op h.pl h.n h2.k h2.op h2.pl h2.n h.name h.arg h.exn h2.name h2.arg h2.exn p p2 l d l2 d2
            (fun b hb => decide_eq_true (by have := HSZ.out; have := ho4.size; have := HYZ.out; have hz : y2.drew.heap.size = y2.heap.size := rfl; omega))
            (HTM.out.reads' (Term.veil_to fun b hbv hv => ⟨hv, ho4.block b hbv (by have hv := of_decide_eq_true hv; have := HOLD.out.1; omega)⟩))
            (hT2.reads' (Term.veil_to fun b hbv hv => ⟨decide_eq_true (by have hv := of_decide_eq_true hv; have := HSZ.out; have := HYZ.out; have hz : y2.drew.heap.size = y2.heap.size := rfl; omega), rfl⟩)) (by omega) (by omega)
          have HR2 := Lib.hid (box_later HR1.out (P := P) (w := y2) (w' := y3) ((Off.of_below HDR.out).trans ho4) (by have := HOLD.out.1; omega))
          have H := Lib.hid (And.intro hbd (And.intro ((HO1.out.trans (Off.of_below HDR.out)).trans ho4) hp4)); have HJ := Lib.hid hjn; have HX := Lib.hid hX
          unfold headV at HJ
          clear hbd hT2 ho4 hp4 hjn hX
          refine HK.out _ _ ?_
          try simp only [Act.put, List.setIfInBounds_toArray, List.set_cons_zero, List.set_cons_succ]
          clear HK K
          refine wpAny_ready (rs := [1]) (by kernel_rfl) (by simp) ?_
          refine AllReady.cons rfl (fun K hK => ?_) AllReady.nil
          have HK := Lib.hid hK
          clear hK
          obtain ⟨⟨q0, q1, q2, q3, q4, q5, q6, q7⟩, e0, e1, e2, e3, e4, e5, e6, e7⟩ := cells8' HX.out
          go_simp
          refine HK.out _ _ ?_
          try simp only [Act.put, List.setIfInBounds_toArray, List.set_cons_zero, List.set_cons_succ]
          clear HK K q0 q1 q2 q3 q4 q5 q6 q7 e0 e1 e2 e3 e4 e5 e6 e7
          refine wpAny_ready (rs := [4]) (by kernel_rfl) (by simp) ?_
          refine AllReady.cons rfl (fun K hK => ?_) AllReady.nil
          have HK := Lib.hid hK
          clear hK
          go_simp
          refine HJ.out.mono ?_
          rintro e y4 ⟨q, rfl, hT3, hb3⟩
          have hX := (hb3.block _ (lt_of_block HX.out)).trans HX.out
          have HR3 := Lib.hid ((hb3.block _ (lt_of_block HR2.out)).trans HR2.out)
          have HT3 := Lib.hid hT3; have HB3 := Lib.hid hb3; have HX3 := Lib.hid hX
          clear hT3 hb3 hX
          refine HK.out _ _ ?_
          try simp only [Act.put, List.setIfInBounds_toArray, List.set_cons_zero, List.set_cons_succ]
          clear HK K
          refine wpAny_ready (rs := [5]) (by kernel_rfl) (by simp) ?_
          refine AllReady.cons rfl (fun K hK => ?_) AllReady.nil
          have HK := Lib.hid hK
          clear hK
          obtain ⟨⟨t0, t1, t2, t3, t4, t5, t6, t7⟩, u0, u1, u2, u3, u4, u5, u6, u7⟩ := cells8' HX3.out
          have tl := lt_of_block HX3.out
          go_simp
          refine HK.out _ _ ?_
          clear HK K
          refine wpAny_done (by kernel_rfl) ?_ _
          go_wp2_with (fail)
          go_roundg m'
          case measure => have := HM'.out; omega
          case rel =>
            have hb4 := Below.set8 w y4 y0.heap.size (Nat.le_of_lt HSZ.out) (.int .u8 10) (.int .u8 0) (.int .i64 a.h.pl) (.int .i64 0) (.string ⟨#[]⟩) (.string ⟨#[]⟩) (.string ⟨#[]⟩) (.slice q 2 2)
            exact Lib.hid ⟨r2.1, node 10 a.h.pl [a, r2.2], ⟨10, 0, a.h.pl, 0, ⟨#[]⟩, ⟨#[]⟩, ⟨#[]⟩⟩, q, 2, 2, H.out.1, HL2.out, by have := HM'.out; have := HGM.out; omega, set8_block HX3.out, HT3.out.reads' (Term.veil_to fun b hbv hv => ⟨hv, set8_other _ _ _ _ _ _ _ _ _ _ _ (of_decide_eq_true hv).2⟩), (H.out.2.1.trans (Off.of_below HB3.out)).then hb4, (H.out.2.2.below HB3.out).keep hb4 HOLD.out.1 HOLD.out.2, (set8_other _ _ _ _ _ _ _ _ _ _ _ (by have := HSZ.out; omega)).trans HR3.out⟩
    · have hst : startsF ts s = true := by rw [HST.out, hin, Bool.or_true]
      clear HST
      have HST := Lib.hid hst
      have HYZ := Lib.hid (Nat.lt_of_lt_of_le (lt_of_block HT0.out) hb2.size)
      have HR1 := Lib.hid ((hb2.block _ (lt_of_block HRB.out)).trans HRB.out)
      have HT1 := Lib.hid ((hb2.block _ (lt_of_block HT0.out)).trans HT0.out)
      have HTM := Lib.hid (HTR.out.reads' (veil_below hb2)); have HO1 := Lib.hid (HOR.out.trans (Off.of_below (P := P) hb2)); have HP1 := Lib.hid (HPR.out.below hb2)
      clear hb1 hb2 hin hst HTR HOR HPR HRB HT0 HIS HHS
      have hsx : ∃ m' r2, gk = m' + 1 ∧ unaryF ts m' ⟨s.i, false⟩ = some r2 ∧ aloopF ts m' r2.1 (node 10 a.h.pl [a, r2.2]) = some R := by
        have hl := HLP.out
        cases gk with
        | zero => unfold aloopF at hl; cases hl
        | succ m' =>
          unfold aloopF at hl
          rw [if_pos ⟨HBD.out, HST.out⟩] at hl
          obtain ⟨r2, h1, h2⟩ := Option.bind_eq_some_iff.1 hl
          rw [good_eq HBD.out] at h1
          exact ⟨m', r2, rfl, h1, h2⟩
      obtain ⟨m', r2, hm', hr2, hl2⟩ := hsx
      have hrun := fun W (hb : Below y1.heap.size y1 W) => HU.out m' (by have := HGM.out; omega) W P g n c s.i ts r2 (HP1.out.below hb) (HL.out.off (HO1.out.trans (Off.of_below hb))) hr2
      have HRUN := Lib.hid hrun; have HL2 := Lib.hid hl2; have HM' := Lib.hid hm'
      have hdr : Below y1.heap.size y1 y1.drew := (Below.refl _ _).drew
      have HDR := Lib.hid hdr
      clear hr2 hl2 hm' hrun hdr
      go_wp2_with (fail)
      refine wp_region_any (by kernel_rfl) ?_
      change wpAny _ _ _ _ _ _ _ (World.drew _)
      refine wpAny_take (i := 0) (v := .agg #[.int .u8 10, .int .u8 0, .int .i64 0, .int .i64 0, .string ⟨#[]⟩, .string ⟨#[]⟩, .string ⟨#[]⟩]) rfl (by kernel_rfl) (by kernel_rfl) (by kernel_rfl) (fun _ _ _ h => h) (Or.inl ⟨by rfl, ?_⟩) ?_
      · intro w'
        go_simp
      try simp only [Act.put, List.setIfInBounds_toArray, List.set_cons_zero, List.set_cons_succ]
      refine wpAny_take (i := 2) (v := .pointer (some ⟨P, 0, none⟩)) rfl (by kernel_rfl) (by kernel_rfl) (by kernel_rfl) (fun _ _ _ h => h) (Or.inl ⟨by rfl, ?_⟩) ?_
      · intro w'
        go_simp
      try simp only [Act.put, List.setIfInBounds_toArray, List.set_cons_zero, List.set_cons_succ]
      refine wpAny_ready (rs := [1, 3]) (by kernel_rfl) (by simp) ?_
      refine AllReady.cons rfl (fun K hK => ?_) (AllReady.cons rfl (fun K hK => ?_) AllReady.nil)
      · have HK := Lib.hid hK
        clear hK
        obtain ⟨⟨q0, q1, q2, q3, q4, q5, q6, q7⟩, e0, e1, e2, e3, e4, e5, e6, e7⟩ := cells8' HT1.out
        go_simp
        refine HK.out _ _ ?_
        try simp only [Act.put, List.setIfInBounds_toArray, List.set_cons_zero, List.set_cons_succ]
        clear HK K q0 q1 q2 q3 q4 q5 q6 q7 e0 e1 e2 e3 e4 e5 e6 e7
        refine wpAny_ready (rs := [3]) (by kernel_rfl) (by simp) ?_
        refine AllReady.cons rfl (fun K hK => ?_) AllReady.nil
        have HK := Lib.hid hK
        clear hK
        go_simp
        refine (HRUN.out _ HDR.out).mono ?_
        rintro e y2 (⟨hbd, ⟨h2, p2, l2, d2, rfl, hT2⟩, ho4, hp4⟩ | ⟨hbd, rfl, ho4⟩)
        rotate_left
        · unfold thrown strayV
          have hRe := aloop_bad ts hbd HL2.out
          have H := Lib.hid (And.intro (show R.1 = ⟨r2.1.i, true⟩ by rw [hRe]; exact bad_eq hbd) ((HO1.out.trans (Off.of_below HDR.out)).trans ho4))
          exact ⟨rfl, part_thrown H.out.1 H.out.2⟩
        have hX := box_later HT1.out (P := P) (w := y1) (w' := y2) ((Off.of_below HDR.out).trans ho4) (by have := HOLD.out.1; have := HSZ.out; omega)
        have hjn := joined_walk y2 (fun b => decide (w.heap.size + 1 ≤ b ∧ b ≠ y0.heap.size)) a r2.2 10 0 0 h.k h.op h.pl h.n h2.k h2.op h2.pl h2.n h.name h.arg h.exn h2.name h2.arg h2.exn p p2 l d l2 d2
          (fun b hb => decide_eq_true (by have := HSZ.out; have := ho4.size; have := HYZ.out; have hz : y1.drew.heap.size = y1.heap.size := rfl; omega))
          (HTM.out.reads' (Term.veil_to fun b hbv hv => ⟨hv, ho4.block b hbv (by have hv := of_decide_eq_true hv; have := HOLD.out.1; omega)⟩))
          (hT2.reads' (Term.veil_to fun b hbv hv => ⟨decide_eq_true (by have hv := of_decide_eq_true hv; have := HSZ.out; have := HYZ.out; have hz : y1.drew.heap.size = y1.heap.size := rfl; omega), rfl⟩)) (by omega) (by omega)
        have HR2 := Lib.hid (box_later HR1.out (P := P) (w := y1) (w' := y2) ((Off.of_below HDR.out).trans ho4) (by have := HOLD.out.1; omega))
        have H := Lib.hid (And.intro hbd (And.intro ((HO1.out.trans (Off.of_below HDR.out)).trans ho4) hp4)); have HJ := Lib.hid hjn; have HX := Lib.hid hX
        unfold headV at HJ
        clear hbd hT2 ho4 hp4 hjn hX
        refine HK.out _ _ ?_
        try simp only [Act.put, List.setIfInBounds_toArray, List.set_cons_zero, List.set_cons_succ]
        clear HK K
        refine wpAny_ready (rs := [4]) (by kernel_rfl) (by simp) ?_
        refine AllReady.cons rfl (fun K hK => ?_) AllReady.nil
        have HK := Lib.hid hK
        clear hK
        go_simp
        refine HJ.out.mono ?_
        rintro e y3 ⟨q, rfl, hT3, hb3⟩
        have hX := (hb3.block _ (lt_of_block HX.out)).trans HX.out
        have HR3 := Lib.hid ((hb3.block _ (lt_of_block HR2.out)).trans HR2.out)
        have HT3 := Lib.hid hT3; have HB3 := Lib.hid hb3; have HX3 := Lib.hid hX
        clear hT3 hb3 hX
        refine HK.out _ _ ?_
        try simp only [Act.put, List.setIfInBounds_toArray, List.set_cons_zero, List.set_cons_succ]
        clear HK K
        refine wpAny_ready (rs := [5]) (by kernel_rfl) (by simp) ?_
        refine AllReady.cons rfl (fun K hK => ?_) AllReady.nil
        have HK := Lib.hid hK
        clear hK
        obtain ⟨⟨t0, t1, t2, t3, t4, t5, t6, t7⟩, u0, u1, u2, u3, u4, u5, u6, u7⟩ := cells8' HX3.out
        have tl := lt_of_block HX3.out
        go_simp
        refine HK.out _ _ ?_
        clear HK K
        refine wpAny_done (by kernel_rfl) ?_ _
        go_wp2_with (fail)
        go_roundg m'
        case measure => have := HM'.out; omega
        case rel =>
          have hb4 := Below.set8 w y3 y0.heap.size (Nat.le_of_lt HSZ.out) (.int .u8 10) (.int .u8 0) (.int .i64 a.h.pl) (.int .i64 0) (.string ⟨#[]⟩) (.string ⟨#[]⟩) (.string ⟨#[]⟩) (.slice q 2 2)
          exact Lib.hid ⟨r2.1, node 10 a.h.pl [a, r2.2], ⟨10, 0, a.h.pl, 0, ⟨#[]⟩, ⟨#[]⟩, ⟨#[]⟩⟩, q, 2, 2, H.out.1, HL2.out, by have := HM'.out; have := HGM.out; omega, set8_block HX3.out, HT3.out.reads' (Term.veil_to fun b hbv hv => ⟨hv, set8_other _ _ _ _ _ _ _ _ _ _ _ (of_decide_eq_true hv).2⟩), (H.out.2.1.trans (Off.of_below HB3.out)).then hb4, (H.out.2.2.below HB3.out).keep hb4 HOLD.out.1 HOLD.out.2, (set8_other _ _ _ _ _ _ _ _ _ _ _ (by have := HSZ.out; omega)).trans HR3.out⟩
      · have HK := Lib.hid hK
        clear hK
        go_simp
        refine (HRUN.out _ HDR.out).mono ?_
        rintro e y2 (⟨hbd, ⟨h2, p2, l2, d2, rfl, hT2⟩, ho4, hp4⟩ | ⟨hbd, rfl, ho4⟩)
        rotate_left
        · unfold thrown strayV
          have hRe := aloop_bad ts hbd HL2.out
          have H := Lib.hid (And.intro (show R.1 = ⟨r2.1.i, true⟩ by rw [hRe]; exact bad_eq hbd) ((HO1.out.trans (Off.of_below HDR.out)).trans ho4))
          exact ⟨rfl, part_thrown H.out.1 H.out.2⟩
        have hX := box_later HT1.out (P := P) (w := y1) (w' := y2) ((Off.of_below HDR.out).trans ho4) (by have := HOLD.out.1; have := HSZ.out; omega)
        have hjn := joined_walk y2 (fun b => decide (w.heap.size + 1 ≤ b ∧ b ≠ y0.heap.size)) a r2.2 10 0 0 h.k h.op h.pl h.n h2.k h2.op h2.pl h2.n h.name h.arg h.exn h2.name h2.arg h2.exn p p2 l d l2 d2
          (fun b hb => decide_eq_true (by have := HSZ.out; have := ho4.size; have := HYZ.out; have hz : y1.drew.heap.size = y1.heap.size := rfl; omega))
          (HTM.out.reads' (Term.veil_to fun b hbv hv => ⟨hv, ho4.block b hbv (by have hv := of_decide_eq_true hv; have := HOLD.out.1; omega)⟩))
          (hT2.reads' (Term.veil_to fun b hbv hv => ⟨decide_eq_true (by have hv := of_decide_eq_true hv; have := HSZ.out; have := HYZ.out; have hz : y1.drew.heap.size = y1.heap.size := rfl; omega), rfl⟩)) (by omega) (by omega)
        have HR2 := Lib.hid (box_later HR1.out (P := P) (w := y1) (w' := y2) ((Off.of_below HDR.out).trans ho4) (by have := HOLD.out.1; omega))
        have H := Lib.hid (And.intro hbd (And.intro ((HO1.out.trans (Off.of_below HDR.out)).trans ho4) hp4)); have HJ := Lib.hid hjn; have HX := Lib.hid hX
        unfold headV at HJ
        clear hbd hT2 ho4 hp4 hjn hX
        refine HK.out _ _ ?_
        try simp only [Act.put, List.setIfInBounds_toArray, List.set_cons_zero, List.set_cons_succ]
        clear HK K
        refine wpAny_ready (rs := [1]) (by kernel_rfl) (by simp) ?_
        refine AllReady.cons rfl (fun K hK => ?_) AllReady.nil
        have HK := Lib.hid hK
        clear hK
        obtain ⟨⟨q0, q1, q2, q3, q4, q5, q6, q7⟩, e0, e1, e2, e3, e4, e5, e6, e7⟩ := cells8' HX.out
        go_simp
        refine HK.out _ _ ?_
        try simp only [Act.put, List.setIfInBounds_toArray, List.set_cons_zero, List.set_cons_succ]
        clear HK K q0 q1 q2 q3 q4 q5 q6 q7 e0 e1 e2 e3 e4 e5 e6 e7
        refine wpAny_ready (rs := [4]) (by kernel_rfl) (by simp) ?_
        refine AllReady.cons rfl (fun K hK => ?_) AllReady.nil
        have HK := Lib.hid hK
        clear hK
        go_simp
        refine HJ.out.mono ?_
        rintro e y3 ⟨q, rfl, hT3, hb3⟩
        have hX := (hb3.block _ (lt_of_block HX.out)).trans HX.out
        have HR3 := Lib.hid ((hb3.block _ (lt_of_block HR2.out)).trans HR2.out)
        have HT3 := Lib.hid hT3; have HB3 := Lib.hid hb3; have HX3 := Lib.hid hX
        clear hT3 hb3 hX
        refine HK.out _ _ ?_
        try simp only [Act.put, List.setIfInBounds_toArray, List.set_cons_zero, List.set_cons_succ]
        clear HK K
        refine wpAny_ready (rs := [5]) (by kernel_rfl) (by simp) ?_
        refine AllReady.cons rfl (fun K hK => ?_) AllReady.nil
        have HK := Lib.hid hK
        clear hK
        obtain ⟨⟨t0, t1, t2, t3, t4, t5, t6, t7⟩, u0, u1, u2, u3, u4, u5, u6, u7⟩ := cells8' HX3.out
        have tl := lt_of_block HX3.out
        go_simp
        refine HK.out _ _ ?_
        clear HK K
        refine wpAny_done (by kernel_rfl) ?_ _
        go_wp2_with (fail)
        go_roundg m'
        case measure => have := HM'.out; omega
        case rel =>
          have hb4 := Below.set8 w y3 y0.heap.size (Nat.le_of_lt HSZ.out) (.int .u8 10) (.int .u8 0) (.int .i64 a.h.pl) (.int .i64 0) (.string ⟨#[]⟩) (.string ⟨#[]⟩) (.string ⟨#[]⟩) (.slice q 2 2)
          exact Lib.hid ⟨r2.1, node 10 a.h.pl [a, r2.2], ⟨10, 0, a.h.pl, 0, ⟨#[]⟩, ⟨#[]⟩, ⟨#[]⟩⟩, q, 2, 2, H.out.1, HL2.out, by have := HM'.out; have := HGM.out; omega, set8_block HX3.out, HT3.out.reads' (Term.veil_to fun b hbv hv => ⟨hv, set8_other _ _ _ _ _ _ _ _ _ _ _ (of_decide_eq_true hv).2⟩), (H.out.2.1.trans (Off.of_below HB3.out)).then hb4, (H.out.2.2.below HB3.out).keep hb4 HOLD.out.1 HOLD.out.2, (set8_other _ _ _ _ _ _ _ _ _ _ _ (by have := HSZ.out; omega)).trans HR3.out⟩
end Parse
end Go.Proofs.YtadpjkehflokcaaGreatDoor
