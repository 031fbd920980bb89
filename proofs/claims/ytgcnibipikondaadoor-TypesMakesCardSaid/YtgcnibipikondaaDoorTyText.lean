/- The walk of the program's Text. -/
import Derived.Test.YtgcnibipikondaaDoorTyTyp
import Derived.Test.YtgcnibipikondaaDoorTyOf
namespace Go.Proofs.YtgcnibipikondaaDoor
open Go.RowKit
set_option linter.unusedVariables false
set_option linter.unusedSimpArgs false
namespace Types

def Short (ss : List ByteArray) : Prop := ∀ s ∈ ss, s.size ≤ 21
theorem Short.append {a b : List ByteArray} (h : Short a) (k : Short b) : Short (a ++ b) := fun s hs => by
  rcases List.mem_append.1 hs with hs | hs
  · exact h s hs
  · exact k s hs
theorem Short.cons {x : ByteArray} {a : List ByteArray} (hx : x.size ≤ 21) (h : Short a) : Short (x :: a) := fun s hs => by
  rcases List.mem_cons.1 hs with rfl | hs
  · exact hx
  · exact h s hs
theorem Short.nil : Short [] := fun s hs => by cases hs
theorem joinTail_len : ∀ r : List (List UInt8), (Lib.joinTail [32] r).length = (r.map (fun x => 1 + x.length)).sum
  | [] => rfl
  | x :: r => by
    have ih := joinTail_len r
    unfold Lib.joinTail at ih ⊢
    rw [List.map_cons, List.flatten_cons, List.length_append, ih, List.map_cons, List.sum_cons, List.length_append]
    rfl
theorem sum_len : ∀ r : List ByteArray, (∀ s ∈ r, s.size ≤ 21) → ((r.map (·.data.toList)).map (fun x => 1 + x.length)).sum ≤ 22 * r.length
  | [], _ => Nat.le_refl _
  | y :: r, h => by
    have hy : y.data.toList.length ≤ 21 := h y (List.mem_cons_self ..)
    have ih := sum_len r (fun s hs => h s (List.mem_cons_of_mem _ hs))
    rw [List.map_cons, List.map_cons, List.sum_cons]
    show 1 + y.data.toList.length + _ ≤ 22 * (r.length + 1)
    omega
theorem jb_size (ss : List ByteArray) (h : Short ss) : (jb ss).size ≤ 22 * ss.length := by
  have e : (jb ss).size = (Lib.join (ss.map (·.data.toList)) [32]).length := by rw [← jb_list]; rfl
  rw [e]
  cases ss with
  | nil => simp [Lib.join_nil]
  | cons x r =>
    rw [List.map_cons, Lib.join_cons, List.length_append, joinTail_len]
    have hx : x.data.toList.length ≤ 21 := h x (List.mem_cons_self ..)
    have hr := sum_len r (fun s hs => h s (List.mem_cons_of_mem _ hs))
    show _ ≤ 22 * (r.length + 1)
    omega
theorem digs_size (n : Int) (h0 : 0 ≤ n) (h1 : n ≤ 9223372036854775807) : (digs n).size ≤ 20 := by
  have h : (digs n).size = (Lib.itoa n).length := by unfold digs; simp [ByteArray.size]
  rw [h]
  unfold Lib.itoa
  rw [if_neg (by omega), Lib.decDigits_length]
  exact Lib.nDigits_le20 n.toNat (by omega)
theorem wVar_size (n : Int) (h0 : 0 ≤ n) (h1 : n ≤ 9223372036854775807) : (wVar n).size ≤ 21 := by
  unfold wVar
  rw [ByteArray.size_append]
  have := digs_size n h0 h1
  have e : (⟨#[63]⟩ : ByteArray).size = 1 := rfl
  omega
/-- All numbers are small enough. -/
theorem tight_short {x : Int × List ByteArray} (h : Short x.2) : Short (tightW x) := by
  unfold tightW
  split
  · exact Short.cons (by decide) (h.append (Short.cons (by decide) Short.nil))
  · exact h
/-- Numbers of types that lie in memory are in range. -/
def inB (h : Hd) (_ : Nat) : Bool := decide (h.v ≤ 9223372036854775807)
theorem in_range {w : World} {p : Option Addr} {ts : List Ty} (h : Kids w p ts) : allK inB ts = true := by
  induction h with
  | nokids p => exact allK_nil _
  | atkids b o ts q c hh hc hl hk ih =>
    have : ∀ us : List Ty, (∀ u ∈ us, allT inB u = true) → allK inB us = true := by
      intro us
      induction us with
      | nil => intro _; exact allK_nil _
      | cons u us ihu => intro hu; rw [allK_cons, hu u List.mem_cons_self, ihu (fun x hx => hu x (List.mem_cons_of_mem _ hx))]; rfl
    refine this ts (fun u hu => ?_)
    obtain ⟨i, hi, e⟩ := List.getElem_of_mem hu
    have e2 : tget ts i = u := by
      have := tget_at hi
      rw [List.getElem?_eq_getElem hi, e] at this
      exact (Option.some.inj this).symm
    have := ih i hi
    rw [e2] at this
    have ho := hh i hi
    rw [e2] at ho
    rw [allT_eq, this]
    unfold inB
    rw [decide_eq_true ho.v.2]
    rfl
theorem in_rangeT {w : World} {h : Hd} {p : Option Addr} {l c : Nat} {t : Ty} (hT : TyIs w h p l c t) : allT inB t = true := by
  rw [allT_eq, in_range hT.kids, hT.head]
  unfold inB
  rw [decide_eq_true hT.ok.v.2]
  rfl
theorem words_short : ∀ m : Nat, ∀ t : Ty, wt t ≤ m → mayT t = true → allT inB t = true → Short (wordsT t) := by
  intro m
  induction m with
  | zero => intro t h; have := wt_pos t; omega
  | succ m ih =>
    intro t h hm hi
    obtain ⟨hk, hv, -, -⟩ := may_node hm
    have hi2 := hi
    rw [allT_eq, Bool.and_eq_true] at hi2
    have hkid : ∀ i, i < t.ks.length → Short (wordsT (tget t.ks i)) := fun i hl => ih _ (by have := wts_get hl; have := wt_ks t; omega) (may_kid hm hl) (allK_get inB hl hi2.2)
    rw [wordsT_eq]
    unfold comb
    rcases hk with ⟨hk, hl⟩ | ⟨hk, hl⟩ | ⟨hk, hl⟩
    · rcases hk with hk | hk
      · rw [if_pos hk]; exact Short.cons (by decide) Short.nil
      · simp [hk]
        exact Short.cons (wVar_size _ hv (by have := of_decide_eq_true hi2.1; exact this)) Short.nil
    · simp [hk, kd_get (show 0 < t.ks.length by omega)]
      exact Short.cons (by decide) (tight_short (hkid 0 (by omega)))
    · rcases hk with hk | hk
      · simp [hk, kd_get (show 0 < t.ks.length by omega), kd_get (show 1 < t.ks.length by omega)]
        exact Short.cons (by decide) ((hkid 0 (by omega)).append (Short.cons (by decide) ((hkid 1 (by omega)).append (Short.cons (by decide) Short.nil))))
      · simp [hk, kd_get (show 0 < t.ks.length by omega), kd_get (show 1 < t.ks.length by omega)]
        exact (tight_short (hkid 0 (by omega))).append (Short.cons (by decide) (hkid 1 (by omega)))
theorem text_size {w : World} {h : Hd} {p : Option Addr} {l c : Nat} {t : Ty} (hT : TyIs w h p l c t) (hm : mayT t = true) : (jb (wordsT t)).size ≤ 66 * wt t := by
  have h1 := jb_size _ (words_short _ t (Nat.le_refl _) hm (in_rangeT hT))
  have h2 := words_le hm
  omega
theorem add_run (a b c : ByteArray) (h : a ++ b = c) (hs : c.size ≤ 1000000) (W : World) : (Op.stringOp .add a b).run Tryd.prog W = .ok (.string c) W := by
  rw [run_string_add_sum, h]
  have : c.size = a.size + b.size := by rw [← h, ByteArray.size_append]
  omega

set_option maxRecDepth 10000 in
set_option maxHeartbeats 6400000 in
theorem typ_5 (w0 : World) (N m : Nat) (hN0 : w0.heap.size ≤ N) (t : Ty) (v : Int) (p : Option Addr) (l c : Nat) (ss : List ByteArray) (w : World) (hnl : NumLaid w0) (hm : wt t ≤ m + 1) (hok : mayT t = true) (hI : TyIs w0 ⟨5, v⟩ p l c t) (hb : Below w0.heap.size w0 w) (hW : WAt N ss w) (hz : ss.length + 3 * wt t ≤ 1000000) :
    Calls Tryd.prog 27 #[.pointer (some ⟨N, 0, none⟩), .agg #[.int .u8 5, .int .i64 v, .slice p l c]] w (WEnd N (ss ++ wordsT t) w) := by
  have hNl := hW.lt
  have hv0 := (may_node hok).2.1
  rw [hI.head] at hv0
  have hv1 := hI.ok.v
  simp only at hv0 hv1
  have hp := wt_pos t
  have es : ss ++ wordsT t = ss ++ [wVar v] := by
    rw [wordsT_eq, hI.head]
    unfold comb
    simp
  have hadd := add_run ⟨#[63]⟩ (digs v) (wVar v) rfl (by have := wVar_size v hv0 hv1.2; omega)
  have hd := fun O => digitsOf_walk v hv1.1 hv1.2 (w.alloc O) (hnl.below (hb.alloc hb.size O))
  have hp1 := fun W M hM hSt => put_one (cs := #[.int .u8 5, .int .i64 v, .slice p l c]) hNl (wVar v) W M ss hM hSt (by omega)
  have hs := St.start (.cells #[.int .u8 5, .int .i64 v, .slice p l c] 24 (0, 0)) hW
  have ES := Lib.hid es; have HS := Lib.hid hs; have H1 := Lib.hid hp1; have HD := Lib.hid hd
  clear es hs hp1 hd hI hb hW hok hm hz hnl hp
  generalize digs v = dv at *
  generalize wVar v = wv at *
  go_enter Tryd.func27, Tryd.ntmps27
  go_wp2_with (fail)
  refine (HD.out _).mono ?_
  rintro e w1 ⟨rfl, hb1⟩
  have HS1 := Lib.hid (HS.out.next hNl (HS.out.1.below hb1) (Wrote.of_below hb1))
  clear hb1
  go_wp2_with (fail)
  refine (H1.out _ _ rfl HS1.out).mono ?_
  rintro e w2 ⟨rfl, h2⟩
  have HS2 := Lib.hid h2
  clear h2
  go_wp2_with (fail)
  go_end0
  rw [ES.out]
  exact st_end HS2.out
/-- THE WRITER'S TYPE. -/
theorem typ_all (w0 : World) (N : Nat) (hN : w0.heap.size ≤ N) (hnl : NumLaid w0) : ∀ m, TypOf w0 N m := by
  intro m
  induction m with
  | zero =>
    intro t h p l c ss w hm
    have := wt_pos t
    omega
  | succ m ih =>
    intro t h p l c ss w hm hok hI hb hW hz
    have hk := (may_node hok).1
    rw [hI.head] at hk
    obtain ⟨k, v⟩ := h
    simp only at hk
    have hh : k = 1 ∨ k = 2 ∨ k = 3 ∨ k = 4 ∨ k = 5 := by omega
    rcases hh with rfl | rfl | rfl | rfl | rfl
    · exact typ_1 w0 N m hN ih t v p l c ss w hm hok hI hb hW hz
    · exact typ_2 w0 N m hN ih t v p l c ss w hm hok hI hb hW hz
    · exact typ_3 w0 N m hN ih t v p l c ss w hm hok hI hb hW hz
    · exact typ_4 w0 N m hN ih t v p l c ss w hm hok hI hb hW hz
    · exact typ_5 w0 N m hN t v p l c ss w hnl hm hok hI hb hW hz

/-! ### Text -/
def textS (t : Ty) : ByteArray := if mayT t = true then jb (wordsT t) else ⟨#[]⟩
def textE (t : Ty) : Int := if mayT t = true then 0 else 1
def TextEnd (t : Ty) (w : World) (e : Ending) (w' : World) : Prop := e = .returned (.tuple #[.string (textS t), .int .i64 (textE t)]) ∧ Below w.heap.size w w'
theorem text_no {t : Ty} (h : mayT t = false) : textS t = ⟨#[]⟩ ∧ textE t = 1 := by unfold textS textE; rw [h]; exact ⟨rfl, rfl⟩
theorem text_yes {t : Ty} (h : mayT t = true) : textS t = jb (wordsT t) ∧ textE t = 0 := by unfold textS textE; rw [h]; exact ⟨rfl, rfl⟩
theorem wrote_low {N : Nat} {a w W : World} (h : Wrote N w W) {B : Nat} (hb : Below B a w) (hB : B ≤ N) (hw : B ≤ a.heap.size) : Below B a W :=
  ⟨h.os.trans hb.os, h.tape.trans hb.tape, h.output.trans hb.output, Nat.le_trans hb.size h.size, fun k hk => (h.low k (Nat.lt_of_lt_of_le (Nat.lt_of_lt_of_le hk hw) hb.size) (by omega)).trans (hb.block k hk)⟩
set_option maxRecDepth 10000 in
set_option maxHeartbeats 12800000 in
theorem text_walk (t : Ty) (h : Hd) (p : Option Addr) (l c : Nat) (w : World) (hT : TyIs w h p l c t) (hw : wt t ≤ 2000) (hk : KidsLaid w) (hn : NumLaid w) :
    Calls Tryd.prog 11 #[.agg #[.int .u8 h.k, .int .i64 h.v, .slice p l c]] w (TextEnd t w) := by
  have hmay := fun O : Obj => may_walk t h p l c (w.alloc O) (hT.below (box_new O)) (hk.below (box_new O))
  obtain ⟨k, v⟩ := h
  have HM := Lib.hid hmay; have HT := Lib.hid hT; have HN := Lib.hid hn; have HW := Lib.hid hw
  clear hmay hT hn hw hk
  go_enter Tryd.func11, Tryd.ntmps11
  go_wp2_with (fail)
  refine (HM.out _).mono ?_
  rintro e w1 ⟨rfl, hb1⟩
  have hX1 := (hb1.block w.heap.size (by simp)).trans (heap_alloc_new w _)
  have hB1 : Below w.heap.size w w1 := (box_new (w := w) (.cells #[.int .u8 k, .int .i64 v, .slice p l c] 24)).trans (hb1.mono (by simp))
  have HB1 := Lib.hid hB1; have HX1 := Lib.hid hX1
  clear hb1 hB1 hX1
  cases hmt : mayT t
  · obtain ⟨e1, e2⟩ := text_no hmt
    have HE := Lib.hid (And.intro e1 e2)
    clear hmt e1 e2
    go_wp2_with (fail)
    refine bodyPost_ret (v := .tuple #[.string ⟨#[]⟩, .int .i64 1]) (by simp [results, Tryd.results11, go_sem]) rfl ?_
    exact ⟨by rw [HE.out.1, HE.out.2], HB1.out⟩
  · obtain ⟨e1, e2⟩ := text_yes hmt
    have hwl := words_le hmt
    have hpos := (words_pos _ t (Nat.le_refl _) hmt).1
    have hsz := text_size HT.out hmt
    have hwt := HW.out
    have hcall := fun W hA hb => typ_all w1 w1.heap.size (Nat.le_refl _) (HN.out.below HB1.out) (wt t) t ⟨k, v⟩ p l c [] W (Nat.le_refl _) hmt (HT.out.below HB1.out) hb hA (by simp; omega)
    have hA0 : WAt w1.heap.size [] (w1.alloc (.cells #[.slice none 0 0] 45)) := ⟨_, heap_alloc_new w1 _, World.ownsRow_nil _ _ _ _⟩
    have hXX : (w1.alloc (.cells #[.slice none 0 0] 45)).heap[w.heap.size]? = some (.cells #[.int .u8 k, .int .i64 v, .slice p l c] 24 (0, 0)) := (Below.heap_alloc _ _ _ (lt_of_block HX1.out)).trans HX1.out
    have hle : (wordsT t).length ≤ 1000000 := by omega
    have hbd : (jb (wordsT t)).size ≤ 1000000 := by omega
    have HE := Lib.hid (And.intro e1 e2); have HC := Lib.hid hcall; have HA0 := Lib.hid hA0; have HLE := Lib.hid (And.intro hpos (And.intro hle hbd))
    obtain ⟨⟨c0, c1, c2⟩, -⟩ := cells3 HX1.out
    have hlt := lt_of_block HX1.out
    clear hmt e1 e2 hwl hpos hsz hwt hcall hA0 hle hbd hXX
    go_wp2_with (fail)
    refine (HC.out _ HA0.out (box_new _)).mono ?_
    rintro e w5 ⟨rfl, hA5, hW5⟩
    rw [List.nil_append] at hA5
    obtain ⟨vv, hv5, hown⟩ := hA5
    obtain ⟨va, vc, hvv, _, hcap⟩ := own_slice hown
    subst hvv
    obtain ⟨g, rfl, hg⟩ := own_at hown (by have := HLE.out.1; omega)
    have e0 : w5.cell? ⟨w1.heap.size, 0, none⟩ = some (.slice (some ⟨g, 0, none⟩) (wordsT t).length vc) := by simp [World.cell?, hv5]
    have el := lt_of_block hv5
    have hcells : ∀ (j : Nat) x, (wordsT t)[j]? = some x → w5.cell? ⟨g, 0 + j, none⟩ = some (.string x) := by
      intro j x hx
      rw [Nat.zero_add]
      exact row_cell hown (by rw [List.getElem?_map, hx]; rfl)
    have hgl := (hown.lt g rfl).2
    have hle := HLE.out.2.1
    have hbd := HLE.out.2.2
    have hjoin := Tryd.strings_Join g 0 vc (wordsT t) ⟨#[32]⟩ w5 hcells hgl (by omega) hcap (by have e : (jb (wordsT t)).size = (Lib.join ((wordsT t).map (·.data.toList)) [32]).length := (by rw [← jb_list]; rfl); rw [e] at hbd; show (Lib.join _ [32]).length ≤ _; omega)
    have hB5 : Below w.heap.size w w5 := wrote_low hW5 (HB1.out.alloc HB1.out.size _) HB1.out.size (Nat.le_refl _)
    have HJ := Lib.hid hjoin; have HB5 := Lib.hid hB5
    clear hv5 hown hcells hgl hbd hle hjoin hW5 hcap hg hB5 c0 c1 c2
    generalize (wordsT t).length = L at *
    go_wp2_with (fail)
    refine HJ.out.mono ?_
    rintro e w6 ⟨rfl, hb6⟩
    have HB6 := Lib.hid (below_then HB5.out hb6 HB5.out.size)
    clear hb6 e0 el
    go_wp2_with (fail)
    refine bodyPost_ret (v := .tuple #[.string ⟨(Lib.join (List.map (fun x => x.data.toList) (wordsT t)) [32]).toArray⟩, .int .i64 0]) (by simp [results, Tryd.results11, go_sem]) rfl ?_
    exact ⟨by rw [HE.out.1, HE.out.2]; rfl, HB6.out⟩
end Types
end Go.Proofs.YtgcnibipikondaaDoor
