/- The program's reading of tokens: parts that are handed on. -/
import Derived.Test.YtlmaphaipcfppaaGreatDoorGParseD
import Derived.Test.YtlmaphaipcfppaaGreatDoorGParseA
import Derived.Deep.RegionHeld3
namespace Go.Proofs.YtlmaphaipcfppaaGreatDoor
open Go.RowKit
set_option linter.unusedVariables false
set_option linter.unusedSimpArgs false
namespace Parse
open Token (Tok tel ToksAt)
open Term (Tm Hd TmIs Kids ret_bool ret_i64 Reads veil Flat tcells)
open Words (str_no str_yes NumLaid)
open Chars (isin BytesAt)

/-- A part of the grammar, which function number K reads: what it comes to with fuel m. -/
def PE (K : Nat) (F : List Tok → Nat → St → Option (St × Tm)) (m : Nat) : Prop :=
  ∀ (w : World) (P g n c i : Nat) (ts : List Tok) (r : St × Tm), PR w P g n c i ts → Lay w P → F ts m ⟨i, false⟩ = some r → Calls Tryz.prog K #[.pointer (some ⟨P, 0, none⟩)] w (PartEnd P g n c ts r w)

theorem part_pass {B P g n c N : Nat} {ts : List Tok} {r : St × Tm} {w w1 w2 W : World} {h : Hd} {p : Option Addr} {l d : Nat} (hb : r.1.bad = false) (hT : TmIs (fresh w1.heap.size w2) h p l d r.2) (hp : PR w2 P g n c r.1.i ts) (how : Off P w w2)
    (hB : B ≤ w1.heap.size) (hN : N < w1.heap.size) (hold : P < w.heap.size ∧ g < w.heap.size) (hW : ∀ k, k ≠ N → W.heap[k]? = w2.heap[k]?) (hBW : Below w.heap.size w2 W) :
    PartB B P g n c ts r w (.returned (.agg #[.int .u8 h.k, .int .u8 h.op, .int .i64 h.pl, .int .i64 h.n, .string h.name, .string h.arg, .string h.exn, .slice p l d])) W :=
  .inl ⟨hb, ⟨h, p, l, d, rfl, hT.reads' (fresh_box hB hN fun k hk _ => hW k hk)⟩, how.then hBW, hp.keep hBW hold.1 hold.2⟩
theorem part_thrown {B P g n c : Nat} {ts : List Tok} {r : St × Tm} {w w' : World} {i : Nat} (hb : r.1 = ⟨i, true⟩) (ho : Off P w w') : PartB B P g n c ts r w (.panicked [{ v := .iface 77 (.agg #[.int .u8 (tel ts i).k, .string (tel ts i).s, .int .i64 (tel ts i).a]), recovered := false }]) w' := .inr ⟨by rw [hb], by rw [hb]; rfl, ho⟩
theorem bad_eq {s : St} (h : s.bad = true) : s = ⟨s.i, true⟩ := by cases s; cases h; rfl
theorem good_eq {s : St} (h : s.bad = false) : s = ⟨s.i, false⟩ := by cases s; cases h; rfl
theorem want_ok {ts : List Tok} {i : Nat} {x : ByteArray} (h : textOf ts i = x) : wantF ts ⟨i, false⟩ x = ⟨i + 1, false⟩ := by unfold wantF; rw [if_neg (by simp [h])]
theorem want_no {ts : List Tok} {i : Nat} {x : ByteArray} (h : textOf ts i ≠ x) : wantF ts ⟨i, false⟩ x = ⟨i, true⟩ := by unfold wantF; rw [if_pos (.inr h)]
theorem box_later {P N : Nat} {w w' : World} {o : Obj} (h : w.heap[N]? = some o) (ho : Off P w w') (hN : N ≠ P) : w'.heap[N]? = some o := (ho.block N (lt_of_block h) hN).trans h

set_option maxRecDepth 10000 in
set_option maxHeartbeats 6400000 in
/-- A word, and an expression behind it. -/
theorem behind_walk (m : Nat) (hE : PE 27 exprF m) (w : World) (P g n c i : Nat) (ts : List Tok) (x : ByteArray) (r : St × Tm) (h : PR w P g n c i ts) (hL : Lay w P) (hx : x ∈ wordsL) (hr : exprF ts m (wantF ts ⟨i, false⟩ x) = some r) :
    Calls Tryz.prog 69 #[.pointer (some ⟨P, 0, none⟩), .string x, .func (.func 27) #[.pointer (some ⟨P, 0, none⟩)] #[]] w (PartEnd P g n c ts r w) := by
  have hbox : ∀ O : Obj, Below w.heap.size w (w.alloc O) := fun O => ((Below.refl _ _).alloc (Nat.le_refl _) O)
  have hwd := fun O => word_walk (w.alloc O) P g n c i ts x (h.below (hbox O)) hx
  have hold := h.old
  have HWD := Lib.hid hwd; have HOLD := Lib.hid hold; have HR := Lib.hid hr; have HL := Lib.hid hL; have HE := Lib.hid hE; have HP := Lib.hid h
  unfold WordEnd thrown strayV at HWD
  clear hwd h hbox hold hr hL hE hx
  go_enter Tryz.func69, Tryz.ntmps69
  go_wp2_with (fail)
  refine (HWD.out _).mono ?_
  rintro e w1 (⟨hx, rfl, ho, hp⟩ | ⟨hx, rfl, ho⟩)
  · obtain ⟨h3, h4⟩ := box_off ho HOLD.out.1
    have hr := HR.out
    rw [want_ok hx] at hr
    have hc := HE.out w1 P g n c (i + 1) ts r hp (HL.out.off h4) hr
    have rl := lt_of_block h3
    have HC := Lib.hid hc; have H3 := Lib.hid h3; have H4 := Lib.hid h4
    clear hx hr hc ho hp h3 h4
    go_wp2_with (fail)
    refine HC.out.mono ?_
    rintro e w2 (⟨hb, ⟨h, p, l, d, rfl, hT⟩, ho2, hp2⟩ | ⟨hb, rfl, ho2⟩)
    · have hr := box_later H3.out ho2 (by have := HOLD.out.1; omega)
      obtain ⟨⟨r0, r1, r2, r3, r4, r5, r6, r7⟩, f0, f1, f2, f3, f4, f5, f6, f7⟩ := cells8' hr
      have rl2 := lt_of_block hr
      have H := Lib.hid (And.intro hb (And.intro hT (And.intro ho2 hp2)))
      clear hb hT ho2 hp2 hr
      go_wp2_with (fail)
      refine bodyPost_ret (v := .agg #[.int .u8 h.k, .int .u8 h.op, .int .i64 h.pl, .int .i64 h.n, .string h.name, .string h.arg, .string h.exn, .slice p l d]) (by simp [results, Tryz.results69, go_sem, r0, r1, r2, r3, r4, r5, r6, r7]) rfl
        (part_pass H.out.1 H.out.2.1 H.out.2.2.2 (H4.out.trans H.out.2.2.1) H4.out.size rl HOLD.out (fun k hk => set8_other _ _ _ _ _ _ _ _ _ _ _ hk) (Below.set8 w _ _ (Nat.le_refl _) _ _ _ _ _ _ _ _))
    · unfold thrown strayV
      have H := Lib.hid (And.intro hb ho2)
      clear hb ho2
      go_wp2_with (fail)
      exact ⟨rfl, part_thrown (bad_eq H.out.1) (H4.out.trans H.out.2)⟩
  · obtain ⟨h3, h4⟩ := box_off ho HOLD.out.1
    have hr := HR.out
    rw [want_no hx] at hr
    have hr' := expr_bad ts rfl hr
    have H := Lib.hid (And.intro hr' h4)
    clear hx hr hr' ho h3 h4
    go_wp2_with (fail)
    exact ⟨rfl, part_thrown H.out.1 H.out.2⟩

theorem boxes2 {P : Nat} {w W : World} {O O' : Obj} (h : Off P ((w.alloc O).alloc O') W) (hP : P < w.heap.size) : W.heap[w.heap.size]? = some O ∧ W.heap[w.heap.size + 1]? = some O' ∧ Off P w W := by
  have s1 : (w.alloc O).heap.size = w.heap.size + 1 := by simp
  obtain ⟨h1, h2⟩ := box_off h (by omega)
  obtain ⟨h3, h4⟩ := box_off h2 hP
  exact ⟨h3, by rw [← s1]; exact h1, h4⟩
/-- How a sign and a part end, where the blocks V are seen. -/
def PartV (V : Nat → Bool) (P g n c : Nat) (ts : List Tok) (r : St × Tm) (w : World) (e : Ending) (w' : World) : Prop :=
  (r.1.bad = false ∧ (∃ h p l d, e = .returned (.agg #[.int .u8 h.k, .int .u8 h.op, .int .i64 h.pl, .int .i64 h.n, .string h.name, .string h.arg, .string h.exn, .slice p l d]) ∧ TmIs (veil V w') h p l d r.2) ∧ Off P w w' ∧ PR w' P g n c r.1.i ts) ∨
  (r.1.bad = true ∧ e = thrown (tel ts r.1.i) ∧ Off P w w')
theorem partV_thrown {V : Nat → Bool} {P g n c : Nat} {ts : List Tok} {r : St × Tm} {w w' : World} {i : Nat} (hb : r.1 = ⟨i, true⟩) (ho : Off P w w') : PartV V P g n c ts r w (.panicked [{ v := .iface 77 (.agg #[.int .u8 (tel ts i).k, .string (tel ts i).s, .int .i64 (tel ts i).a]), recovered := false }]) w' := .inr ⟨by rw [hb], by rw [hb]; rfl, ho⟩
set_option maxRecDepth 10000 in
set_option maxHeartbeats 6400000 in
/-- A sign, and a part behind it. -/
theorem signed_walk (m Kp : Nat) (F : List Tok → Nat → St → Option (St × Tm)) (hE : PE Kp F m) (hK : ∀ args w, (callFunc Kp args).run Tryz.prog w = .ok (.enter Kp args) w) (V : Nat → Bool) (w : World) (P g n c i : Nat) (ts : List Tok) (x : ByteArray) (a : Tm) (h : Hd) (p : Option Addr) (l d : Nat) (r : St × Tm) (hR : PR w P g n c i ts) (hL : Lay w P)
    (hx : x ∈ [wPut, wLess, wIs, wAdd, wSub, wMul]) (ht : textOf ts i = x) (hr : F ts m ⟨i + 1, false⟩ = some r) (hB : V P = false ∧ ∀ b, w.heap.size ≤ b → V b = true) (hT : TmIs (veil V w) h p l d a) :
    Calls Tryz.prog 88 #[.pointer (some ⟨P, 0, none⟩), .agg #[.int .u8 h.k, .int .u8 h.op, .int .i64 h.pl, .int .i64 h.n, .string h.name, .string h.arg, .string h.exn, .slice p l d], .func (.func Kp) #[.pointer (some ⟨P, 0, none⟩)] #[]] w (PartV V P g n c ts (r.1, putF x a r.2) w) := by
  have hxl : x ∈ wordsL := by revert hx; unfold wordsL; simp only [List.mem_cons, List.not_mem_nil, or_false]; rintro (rfl | rfl | rfl | rfl | rfl | rfl) <;> simp
  have hne := text_not_end hxl ht
  have hs : (tel ts i).s = x := (hR.good.is_text (by rw [hR.row.len]; exact hR.lt) hxl).2 ht
  have hbox : ∀ O : Obj, Below w.heap.size w (w.alloc O) := fun O => ((Below.refl _ _).alloc (Nat.le_refl _) O)
  have hbox2 : ∀ O O' : Obj, Below w.heap.size w ((w.alloc O).alloc O') := fun O O' => ((Below.refl _ _).alloc (Nat.le_refl _) O).alloc (by simp) O'
  have hpr := fun O O' => hR.below (hbox2 O O')
  have htk := fun O O' => (take_walk ((w.alloc O).alloc O') P g n c i ts (hpr O O') (hR.more hne)).mono fun e w' he => (show e = .returned (tokV (tel ts i)) ∧ Off P ((w.alloc O).alloc O') w' ∧ PR w' P g n c (i + 1) ts from ⟨he.1, he.2.1, (hpr O O').next he.2.1 he.2.2 hne⟩)
  have hold := hR.old
  have HTK := Lib.hid htk; have HOLD := Lib.hid hold; have HR := Lib.hid hr; have HL := Lib.hid hL; have HE := Lib.hid hE; have HT := Lib.hid hT; have HX := Lib.hid (And.intro hx hs)
  have HB := Lib.hid hB
  unfold tokV at HTK
  rw [hs] at HTK
  clear htk hR hbox hbox2 hpr hold hr hL hE hT hx hs hxl hne ht hB
  have hf := fieldTok1
  go_enter Tryz.func88, Tryz.ntmps88
  go_wp2_with (fail)
  refine (HTK.out _ _).mono ?_
  rintro e w1 ⟨rfl, ho, hp⟩
  obtain ⟨h3, h3', h4⟩ := boxes2 ho HOLD.out.1
  have H3 := Lib.hid h3; have H3' := Lib.hid h3'; have H4 := Lib.hid h4; have HP := Lib.hid hp
  clear ho hp h3 h3' h4
  go_wp2_with (fail)
  refine (signHead_walk w1 x HX.out.1).mono ?_
  rintro e w2 ⟨rfl, hb2⟩
  have hbx : ∀ O : Obj, Below w1.heap.size w1 (w2.alloc O).drew := fun O => hb2.trans (((Below.refl _ _).alloc (by exact hb2.size) O).drew)
  have h3 := (hb2.block _ (lt_of_block H3.out)).trans H3.out
  have HBX := Lib.hid hbx
  have hl1 : w.heap.size < w2.heap.size := lt_of_block h3
  have HL2 := Lib.hid (Nat.lt_of_lt_of_le (lt_of_block H3'.out) hb2.size)
  clear hbx hb2
  unfold headV
  go_wp2_with (fail)
  refine wp_region_held_drew (S := fun W => W.heap[w.heap.size]? = some (.cells #[.int .u8 h.k, .int .u8 h.op, .int .i64 h.pl, .int .i64 h.n, .string h.name, .string h.arg, .string h.exn, .slice p l d] 29 (0, 0)) ∧ W.heap[w2.heap.size]? = some (.cells #[.int .u8 (opK x), .int .u8 (opO x), .int .i64 0, .int .i64 0, .string ⟨#[]⟩, .string ⟨#[]⟩, .string ⟨#[]⟩] 26 (0, 0))) (by kernel_rfl) ?_ (fun hHeld => ?_)
  · exact ⟨(Below.heap_alloc _ _ _ hl1).trans h3, heap_alloc_new w2 _⟩
  refine wpAnyH_take (i := 0) (v := .agg #[.int .u8 (opK x), .int .u8 (opO x), .int .i64 0, .int .i64 0, .string ⟨#[]⟩, .string ⟨#[]⟩, .string ⟨#[]⟩]) rfl (by kernel_rfl) (by kernel_rfl) (by kernel_rfl) (fun _ _ _ h => h) (Or.inl ⟨by rfl, ?_⟩) (by assumption) ?_
  · intro w' hSw
    obtain ⟨⟨q0, q1, q2, q3, q4, q5, q6⟩, e0, e1, e2, e3, e4, e5, e6⟩ := cells7' hSw.2
    go_simp
  try simp only [Act.put, List.setIfInBounds_toArray, List.set_cons_zero, List.set_cons_succ]
  refine wpAnyH_take (i := 1) (v := .agg #[.int .u8 h.k, .int .u8 h.op, .int .i64 h.pl, .int .i64 h.n, .string h.name, .string h.arg, .string h.exn, .slice p l d]) rfl (by kernel_rfl) (by kernel_rfl) (by kernel_rfl) (fun _ _ _ h => h) (Or.inl ⟨by rfl, ?_⟩) (by assumption) ?_
  · intro w' hSw
    obtain ⟨⟨q0, q1, q2, q3, q4, q5, q6, q7⟩, e0, e1, e2, e3, e4, e5, e6, e7⟩ := cells8' hSw.1
    go_simp
  try simp only [Act.put, List.setIfInBounds_toArray, List.set_cons_zero, List.set_cons_succ]
  refine wpAnyH_take (i := 2) (v := .func (.func Kp) #[.pointer (some ⟨P, 0, none⟩)] #[]) rfl (by kernel_rfl) (by kernel_rfl) (by kernel_rfl) (fun _ _ _ h => h) (Or.inl ⟨by rfl, ?_⟩) (by assumption) ?_
  · intro w' hSw
    go_simp
  try simp only [Act.put, List.setIfInBounds_toArray, List.set_cons_zero, List.set_cons_succ]
  refine wpAnyH_ready (rs := [3]) (by kernel_rfl) (by simp) ?_
  refine AllReadyH.cons rfl (fun K hK' => ?_) AllReadyH.nil
  go_simp
  have hb := HBX.out (.cells #[.int .u8 (opK x), .int .u8 (opO x), .int .i64 0, .int .i64 0, .string ⟨#[]⟩, .string ⟨#[]⟩, .string ⟨#[]⟩] 26)
  refine (HE.out _ P g n c (i + 1) ts r (HP.out.below hb) (HL.out.off (H4.out.trans (Off.of_below hb))) HR.out).mono ?_
  rintro e w3 (⟨hbd, ⟨h2, p2, l2, d2, rfl, hT2⟩, ho3, hp3⟩ | ⟨hbd, rfl, ho3⟩)
  · have ho := (H4.out.trans (Off.of_below hb)).trans ho3
    have hne1 : w.heap.size ≠ P := by have := HOLD.out.1; omega
    have hne2 : w2.heap.size ≠ P := by have := HOLD.out.1; omega
    have t1 := box_later hHeld.1 ho3 hne1
    have t2 := box_later hHeld.2 ho3 hne2
    have t3 := box_later H3'.out ((Off.of_below hb).trans ho3) (by have := HOLD.out.1; omega)
    have hT1 : TmIs (veil (fun b => V b && decide (b ≠ w.heap.size + 1)) w3) h p l d a := HT.out.reads' (Term.veil_to fun b hbw hv => by
      have hbP : b ≠ P := fun e => by rw [e, HB.out.1] at hv; cases hv
      exact ⟨by rw [hv, decide_eq_true (by omega)]; rfl, ho.block b hbw hbP⟩)
    have hU1 : TmIs (veil (fun b => V b && decide (b ≠ w.heap.size + 1)) w3) h2 p2 l2 d2 r.2 := hT2.reads' (Term.veil_to fun b hbw hv => by
      have hv := of_decide_eq_true hv
      have := HL2.out
      have hsz : w2.heap.size ≤ b := Nat.le_trans (Nat.le_of_lt (by simp)) hv
      exact ⟨by rw [HB.out.2 b (by omega), decide_eq_true (by omega)]; rfl, rfl⟩)
    have hjn := joined_walk w3 (fun b => V b && decide (b ≠ w.heap.size + 1)) a r.2 (opK x) (opO x) 0 h.k h.op h.pl h.n h2.k h2.op h2.pl h2.n h.name h.arg h.exn h2.name h2.arg h2.exn p p2 l d l2 d2 (fun b hbw => by
      have := HL2.out; have := ho3.size; have := ho.size
      have hs : w2.heap.size ≤ (w2.alloc (.cells #[.int .u8 (opK x), .int .u8 (opO x), .int .i64 0, .int .i64 0, .string ⟨#[]⟩, .string ⟨#[]⟩, .string ⟨#[]⟩] 26)).drew.heap.size := Nat.le_of_lt (by simp)
      show (V b && decide (b ≠ w.heap.size + 1)) = true
      rw [HB.out.2 b (by omega), decide_eq_true (by omega)]; rfl) hT1 hU1 ⟨(opB x).1, (opB x).2.1⟩ ⟨(opB x).2.2.1, (opB x).2.2.2⟩
    have HJ := Lib.hid hjn; have HO := Lib.hid ho; have HP3 := Lib.hid hp3; have T3 := Lib.hid t3; have HBD := Lib.hid hbd
    clear hb hT2 ho3 hp3 ho t3 hT1 hU1 hjn hbd hHeld
    refine hK'.out _ _ ⟨t1, t2⟩ (fun hHeld => ?_)
    try simp only [Act.put, List.setIfInBounds_toArray, List.set_cons_zero, List.set_cons_succ]
    refine wpAnyH_ready (rs := [4]) (by kernel_rfl) (by simp) ?_
    refine AllReadyH.cons rfl (fun K hK'' => ?_) AllReadyH.nil
    clear hK'
    go_simp
    have hl2 : w.heap.size + 1 < w2.heap.size := HL2.out
    refine HJ.out.mono ?_
    rintro e w4 ⟨q, rfl, hT4, hb4⟩
    have t3 := (hb4.block _ (lt_of_block T3.out)).trans T3.out
    obtain ⟨⟨r0, r1, r2, r3, r4, r5, r6, r7⟩, f0, f1, f2, f3, f4, f5, f6, f7⟩ := cells8' t3
    have rl := lt_of_block t3
    have HT4 := Lib.hid hT4; have HB4 := Lib.hid hb4
    have u1 := (hb4.block _ (lt_of_block hHeld.1)).trans hHeld.1
    have u2 := (hb4.block _ (lt_of_block hHeld.2)).trans hHeld.2
    clear t3 hT4 hb4 hHeld
    refine hK''.out _ _ ⟨u1, u2⟩ (fun hHeld => ?_)
    try simp only [Act.put, List.setIfInBounds_toArray, List.set_cons_zero, List.set_cons_succ]
    refine wpAnyH_ready (rs := [5]) (by kernel_rfl) (by simp) ?_
    refine AllReadyH.cons rfl (fun K hK3 => ?_) AllReadyH.nil
    clear hK'' u1 u2
    have HH := Lib.hid hHeld
    clear hHeld
    go_simp
    refine hK3.out _ _ ⟨(set8_other _ _ _ _ _ _ _ _ _ _ _ (by omega)).trans HH.out.1, (set8_other _ _ _ _ _ _ _ _ _ _ _ (by omega)).trans HH.out.2⟩ (fun hHeld => ?_)
    refine wpAnyH_done (by kernel_rfl) ?_ _
    clear hK3 hHeld
    go_wp2_with (fail)
    refine bodyPost_ret (v := .agg #[.int .u8 (opK x), .int .u8 (opO x), .int .i64 a.h.pl, .int .i64 0, .string ⟨#[]⟩, .string ⟨#[]⟩, .string ⟨#[]⟩, .slice q 2 2]) (by simp [results, Tryz.results88, go_sem, r0, r1, r2, r3, r4, r5, r6, r7]) rfl ?_
    have hbw := Below.set8 w w4 (w.heap.size + 1) (by omega) (.int .u8 (opK x)) (.int .u8 (opO x)) (.int .i64 a.h.pl) (.int .i64 0) (.string ⟨#[]⟩) (.string ⟨#[]⟩) (.string ⟨#[]⟩) (.slice q 2 2)
    refine .inl ⟨HBD.out, ⟨⟨opK x, opO x, a.h.pl, 0, ⟨#[]⟩, ⟨#[]⟩, ⟨#[]⟩⟩, q, 2, 2, rfl, ?_⟩, (HO.out.trans (Off.of_below HB4.out)).then hbw, (HP3.out.below HB4.out).keep hbw HOLD.out.1 HOLD.out.2⟩
    exact HT4.out.reads' (Term.veil_to fun b hbw hv => by
      rw [Bool.and_eq_true] at hv
      exact ⟨hv.1, set8_other _ _ _ _ _ _ _ _ _ _ _ (of_decide_eq_true hv.2)⟩)
  · have HBD := Lib.hid (And.intro hbd ((H4.out.trans (Off.of_below hb)).trans ho3))
    unfold thrown strayV
    clear hbd ho3 hb
    exact ⟨rfl, partV_thrown (bad_eq HBD.out.1) HBD.out.2⟩
end Parse
end Go.Proofs.YtlmaphaipcfppaaGreatDoor
