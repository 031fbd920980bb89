/- The walks of the program's Join and of the document's. -/
import Derived.Test.YtklibniadcpjhaaDoorTokenLex
import Derived.Test.YtklibniadcpjhaaDoorWordsShelf
namespace Go.Proofs.YtklibniadcpjhaaDoor
open Go.RowKit
set_option linter.unusedVariables false
namespace Token
open Chars (ret_i64 ret_bool)

/-- Texts, a blank between them. -/
def jb (ss : List ByteArray) : ByteArray := ⟨(Lib.join (ss.map (·.data.toList)) [32]).toArray⟩
theorem jb_list (ss : List ByteArray) : (jb ss).data.toList = Lib.join (ss.map (·.data.toList)) [32] := by simp [jb]
theorem jb_nil : jb [] = ⟨#[]⟩ := rfl
theorem jb_one (s : ByteArray) : jb [s] = s := by
  apply Words.bytes_ext
  rw [jb_list]
  simp [Lib.join_one]
theorem joinTail_snoc (sep : List UInt8) (r : List (List UInt8)) (y : List UInt8) : Lib.joinTail sep (r ++ [y]) = Lib.joinTail sep r ++ sep ++ y := by
  simp [Lib.joinTail]
theorem jb_snoc (ss : List ByteArray) (s : ByteArray) (h : ss ≠ []) : jb (ss ++ [s]) = jb ss ++ ⟨#[32]⟩ ++ s := by
  cases ss with
  | nil => exact absurd rfl h
  | cons x r =>
    apply Words.bytes_ext
    rw [jb_list]
    simp only [List.cons_append, List.map_cons, List.map_append, List.map_nil, Lib.join_cons, joinTail_snoc]
    rw [ByteArray.data_append, ByteArray.data_append, Array.toList_append, Array.toList_append, jb_list]
    simp only [List.map_cons, Lib.join_cons, List.append_assoc]
theorem jb_take_size (ss : List ByteArray) (k : Nat) : (jb (ss.take k)).size ≤ (jb ss).size := by
  have e : ∀ l : List ByteArray, (jb l).size = (Lib.join (l.map (·.data.toList)) [32]).length := fun l => by rw [← jb_list]; rfl
  rw [e, e]
  cases ss with
  | nil => simp
  | cons x r =>
    cases k with
    | zero => simp [Lib.join_nil]
    | succ k =>
      rw [List.take_succ_cons, List.map_cons, List.map_cons, List.map_take, Lib.join_cons, Lib.join_cons, List.length_append, List.length_append]
      have := Lib.joinTail_take_le [32] (r.map (·.data.toList)) k
      omega

open Words (sel)
/-- A slice's tokens' texts, wherever it lies: nothing is asked of an empty one. -/
def TextsIn (w : World) (p : Option Addr) (ss : List ByteArray) : Prop :=
  ss = [] ∨ ∃ b o, p = some ⟨b, o, none⟩ ∧ ∀ i, i < ss.length → ∃ K A : Int, w.cell? ⟨b, o + i * 3, none⟩ = some (.int .u8 K) ∧ w.cell? ⟨b, o + i * 3 + 1, none⟩ = some (.string (sel ss i)) ∧ w.cell? ⟨b, o + i * 3 + 2, none⟩ = some (.int .i64 A)
/-- The texts of tokens. -/
def texts (ts : List Tok) : List ByteArray := ts.map (·.s)
theorem texts_len (ts : List Tok) : (texts ts).length = ts.length := by simp [texts]
theorem texts_sel (ts : List Tok) (k : Nat) (h : k < ts.length) : sel (texts ts) k = (tel ts k).s := by
  unfold texts tel sel
  rw [List.getD_eq_getElem?_getD, List.getElem?_map, List.getD_eq_getElem?_getD, List.getElem?_eq_getElem h]
  rfl
theorem ToksAt.in_ {w : World} {g : Nat} {ts : List Tok} (h : ToksAt w g ts) : TextsIn w (some ⟨g, 0, none⟩) (texts ts) := .inr ⟨g, 0, rfl, fun i hi => by
  rw [texts_len] at hi
  rw [texts_sel ts i hi]
  obtain ⟨h0, h1, h2⟩ := h i hi
  exact ⟨_, _, by simpa using h0, by simpa using h1, by simpa using h2⟩⟩
theorem TextsIn.get {w : World} {p : Option Addr} {ss : List ByteArray} (h : TextsIn w p ss) (k : Nat) (hk : k < ss.length) :
    ∃ b o, p = some ⟨b, o, none⟩ ∧ ∃ K A : Int, w.cell? ⟨b, o + k * 3, none⟩ = some (.int .u8 K) ∧ w.cell? ⟨b, o + k * 3 + 1, none⟩ = some (.string (sel ss k)) ∧ w.cell? ⟨b, o + k * 3 + 2, none⟩ = some (.int .i64 A) := by
  rcases h with rfl | ⟨b, o, hp, h⟩
  · simp at hk
  · exact ⟨b, o, hp, h k hk⟩
theorem TextsIn.below {w W : World} {p : Option Addr} {ss : List ByteArray} (h : TextsIn w p ss) (hb : Below w.heap.size w W) : TextsIn W p ss := by
  rcases h with h | ⟨b, o, hp, hc⟩
  · exact .inl h
  · refine .inr ⟨b, o, hp, fun i hi => ?_⟩
    obtain ⟨K, A, h0, h1, h2⟩ := hc i hi
    have hl : b < w.heap.size := World.block_lt_of_cell? w _ h0
    exact ⟨K, A, (hb.cell (p := ⟨b, o + i * 3, none⟩) hl).trans h0, (hb.cell (p := ⟨b, o + i * 3 + 1, none⟩) hl).trans h1, (hb.cell (p := ⟨b, o + i * 3 + 2, none⟩) hl).trans h2⟩
theorem sel_get (ss : List ByteArray) (k : Nat) (h : k < ss.length) : ss[k]? = some (sel ss k) := by
  unfold sel
  rw [List.getD_eq_getElem?_getD, List.getElem?_eq_getElem h]
  rfl

/-- What the row of texts holds when k have been put there. -/
def fill (ss : List ByteArray) (k n : Nat) : List Value := (ss.take k).map Value.string ++ List.replicate (n - k) (.string ⟨#[]⟩)
theorem fill_step (ss : List ByteArray) (k n : Nat) (hk : k < n) (hn : ss.length = n) (s : ByteArray) (hs : ss[k]? = some s) : (fill ss k n).set k (.string s) = fill ss (k + 1) n := by
  unfold fill
  have hl : ((ss.take k).map Value.string).length = k := by rw [List.length_map, List.length_take]; omega
  rw [List.set_append_right _ _ (by omega), hl, Nat.sub_self, show n - k = (n - (k + 1)) + 1 from by omega, List.replicate_succ, List.set_cons_zero,
    List.take_add_one, hs, List.map_append, List.append_assoc]
  simp
theorem fill_at (ss : List ByteArray) (k n : Nat) (hk : k < n) (hn : ss.length = n) : (fill ss k n)[k]? = some (.string ⟨#[]⟩) := by
  unfold fill
  have hl : ((ss.take k).map Value.string).length = k := by rw [List.length_map, List.length_take]; omega
  rw [List.getElem?_append_right (by omega), hl, Nat.sub_self, List.getElem?_replicate, if_pos (by omega)]
theorem fill_zero (ss : List ByteArray) (n : Nat) : fill ss 0 n = List.replicate n (.string ⟨#[]⟩) := by simp [fill]
theorem fill_all (ss : List ByteArray) (n : Nat) (hn : ss.length = n) : fill ss n n = ss.map Value.string := by
  unfold fill
  rw [← hn, List.take_length]
  simp

theorem infoStr : (Tryd.prog.info? 9).map (fun i => (i.zero, i.size, i.bytes)) = some (some (.string ⟨#[]⟩), 1, 16) := by kernel_rfl

set_option maxRecDepth 10000 in
set_option maxHeartbeats 3200000 in
theorem join_walk (p : Option Addr) (n d : Nat) (ss : List ByteArray) (w : World) (hn : ss.length = n) (hm : n ≤ 100000) (hp : TextsIn w p ss) (hz : (jb ss).size ≤ 1000000) :
    Calls Tryd.prog 12 #[.slice p n d] w fun e w' => e = .returned (.string (jb ss)) ∧ Below w.heap.size w w' := by
  obtain ⟨i0, hi, hz0, hz1, hz2⟩ := info_parts infoStr
  have HI := Lib.hid hi; have HZ0 := Lib.hid hz0; have HZ1 := Lib.hid hz1; have HZ2 := Lib.hid hz2
  have HN := Lib.hid hn; have HP := Lib.hid hp; have HZ := Lib.hid hz; have HM := Lib.hid hm
  have hni : (n : Int) ≤ 100000 := by omega
  clear hi hz0 hz1 hz2 hn hp hz hm
  go_enter Tryd.func12, Tryd.ntmps12
  go_wp2_with (at_make; refine wpList_make_full _ rfl (.tmp 7) (.tmp 7) 44 rfl w.heap.size 9 i0 (.string ⟨#[]⟩) 1 Tryd.underlying44 HI.out HZ0.out HZ1.out .i64 .i64 _ _ n rfl rfl rfl rfl (by rw [HZ2.out]; have := HM.out; omega) (by have := HM.out; unfold maxLen; omega) (Nat.le_refl _) ?_; intro w1 hown1 hgrow1; have HO1 := Lib.hid hown1; have HB1 := Lib.hid ((Below.refl w.heap.size w).grown hgrow1 (Nat.le_refl _) (fun q hq => by cases hq)); clear hown1 hgrow1)
  go_loopw [11] (fun i wr => ∃ k : Nat, k ≤ n ∧ i = .int .i64 k ∧ wr.ownsRow w.heap.size 9 1 (.slice (some ⟨w.heap.size, 0, none⟩) n n) n (fill ss k n) ∧ Below w.heap.size w wr) (fun i _ => n - (intOf i).toNat)
  case atStart =>
    refine ⟨0, Nat.zero_le _, rfl, ?_, HB1.out⟩
    rw [fill_zero]
    have := HO1.out
    rw [Nat.mul_one] at this
    have e : (madeCells (Value.string ⟨#[]⟩).cells n).toList = List.replicate n (.string ⟨#[]⟩) := toList_madeCells_one _ _
    rw [e] at this
    exact this
  case round =>
    obtain ⟨k, hk, rfl, hown, hb⟩ := hrel
    have HO := Lib.hid hown; have HB := Lib.hid hb
    clear hown hb
    by_cases hlt : k < n
    · obtain ⟨b, o, rfl, K, A, a0, a1, a2⟩ := (HP.out.below HB.out).get k (by rw [HN.out]; exact hlt)
      have hs := sel_get ss k (by rw [HN.out]; exact hlt)
      have HS := Lib.hid (fill_step ss k n hlt (by rw [HN.out]) _ hs)
      have hoc := fun O : Obj => (HO.out.alloc O).cellAt k (by omega)
      rw [fill_at ss k n hlt (by rw [HN.out])] at hoc
      have hof := fun O : Obj => (HO.out.alloc O).frozenAt k
      clear hs
      generalize sel ss k = T at *
      go_wp2
      go_roundw
      case rel =>
        refine ⟨k + 1, by omega, by go_num, ?_, (HB.out.alloc HB.out.size _).setCell (p := ⟨w.heap.size, k, none⟩) (Nat.le_refl _) _⟩
        rw [← HS.out]
        exact ((HO.out.alloc _).stored k _).1
      case measure => simp [intOf]; omega
    · obtain rfl : k = n := by omega
      have ho := HO.out
      rw [fill_all _ _ (by rw [HN.out])] at ho
      have hbk := (HO.out.lt _ rfl).2
      have hcells : ∀ (j : Nat) x, ss[j]? = some x → wr.cell? ⟨w.heap.size, 0 + j, none⟩ = some (.string x) := by
        intro j x hx
        have hj : j < k := by
          rcases Nat.lt_or_ge j k with h | h
          · exact h
          · rw [List.getElem?_eq_none (by rw [HN.out]; exact h)] at hx; cases hx
        rw [Nat.zero_add, ho.cellAt j (by omega), List.getElem?_map, hx]
        rfl
      have hjoin := Tryd.strings_Join w.heap.size 0 k ss ⟨#[32]⟩ wr hcells hbk (by rw [HN.out]; have := HM.out; omega) (by rw [HN.out]; exact Nat.le_refl _) (by have := HZ.out; have e : (jb ss).size = (Lib.join (ss.map (·.data.toList)) [32]).length := (by rw [← jb_list]; rfl); rw [e] at this; show (Lib.join _ [32]).length ≤ _; omega)
      rw [HN.out] at hjoin
      have HJ := Lib.hid hjoin
      clear ho hbk hcells hjoin
      go_wp2_with (fail)
      refine HJ.out.mono ?_
      rintro e w2 ⟨rfl, hb2⟩
      have HB2 := Lib.hid (HB.out.trans (hb2.mono HB.out.size))
      clear hb2
      go_wp2
      go_ret
      exact ⟨rfl, HB2.out⟩
end Token
end Go.Proofs.YtklibniadcpjhaaDoor
