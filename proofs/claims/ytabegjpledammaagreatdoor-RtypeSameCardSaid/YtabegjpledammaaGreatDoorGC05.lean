/-The document's: is it an atom, is it in a row. The document's: which is ahead; an atom is put to its place. The document's put and Of. The document's Of, Equal and May. How an argument that is a slice of numbers, or of texts, is seen by a walk: of no program. Rows of numbers. A region, swapped. -/
import Derived.Test.YtabegjpledammaaGreatDoorGC04
import Derived.Shelf.RegionOpenPlain
import Derived.Deep.LoopGhost
import Derived.Test.YtabegjpledammaaGreatDoorGC00
import Derived.SliceStrings
import Derived.ChangeSlices
namespace Go.Proofs.YtabegjpledammaaGreatDoor
open Go.RowKit
set_option linter.unusedVariables false
set_option linter.unusedSimpArgs false
namespace Effect

set_option maxHeartbeats 3200000 in
theorem refAtom_walk (a : At) (w : World) (hx : a.x.size ≤ maxLen) : Calls Tryz.prog 46 #[.agg #[.int .u8 a.k, .int .i64 a.r, .string a.x]] w fun e w' => e = .returned (.bool (atomB a)) ∧ Below w.heap.size w w' := by
  have hat : ∀ b, atomB a = b → atomB a = b := fun b h => h
  have hdef : atomB a = atomB a := rfl
  have HB := Lib.hid (fun O => al_new (W := w) O)
  by_cases h3 : a.k = 3
  · by_cases hr : a.r = 0
    · have ha : Words.exnB a.x = atomB a := by unfold atomB; rw [if_pos h3, hr]; simp
      have hex := fun W => Words.refExn_walk a.x W hx
      obtain ⟨k, r, x⟩ := a
      simp only at h3 hr ha hex
      subst h3 hr
      have HE := Lib.hid hex; have HA := Lib.hid ha
      clear hex hat hdef hx ha
      go_enter Tryz.func46, Tryz.ntmps46
      go_wp2_with (fail)
      refine (HE.out _).mono ?_
      rintro e w1 ⟨rfl, hb1⟩
      have H1 := Lib.hid (below_then (HB.out _) hb1 (by simp))
      clear hb1
      go_wp2_with (fail)
      go_ret
      exact ⟨ret_bool HA.out, H1.out⟩
    · have ha : false = atomB a := by unfold atomB; rw [if_pos h3, decide_eq_false hr]; simp
      obtain ⟨k, r, x⟩ := a
      simp only at h3 hr ha
      subst h3
      have hr1 : (r == 0) = false := by simpa using hr
      have HA := Lib.hid ha
      clear hat hdef hx ha hr
      go_enter Tryz.func46, Tryz.ntmps46
      go_wp2_with (fail)
      go_ret
      exact ⟨ret_bool HA.out, HB.out _⟩
  · by_cases h12 : a.k = 1 ∨ a.k = 2
    · by_cases hr : a.r < 0
      · have ha : false = atomB a := by unfold atomB; rw [if_neg h3, decide_eq_false (show ¬ 0 ≤ a.r by omega)]; simp
        obtain ⟨k, r, x⟩ := a
        simp only at h12 hr ha
        have HA := Lib.hid ha
        clear hat hdef hx ha h3
        rcases h12 with rfl | rfl
        all_goals
          go_enter Tryz.func46, Tryz.ntmps46
          go_wp2_with (fail)
          go_ret
          exact ⟨ret_bool HA.out, HB.out _⟩
      · have ha : a.x.toList.isEmpty = atomB a := by unfold atomB; rw [if_neg h3, ← emp a.x, decide_eq_true (show 0 ≤ a.r by omega)]; rcases h12 with h | h <;> rw [h] <;> simp
        obtain ⟨k, r, x⟩ := a
        simp only at h12 hr ha
        have HA := Lib.hid ha
        clear hat hdef hx ha h3
        rcases h12 with rfl | rfl
        all_goals
          go_enter Tryz.func46, Tryz.ntmps46
          go_wp2_with (fail)
          go_ret
          exact ⟨ret_bool HA.out, HB.out _⟩
    · have ha : false = atomB a := by unfold atomB; rw [if_neg h3, decide_eq_false (show ¬ a.k = 1 by omega), decide_eq_false (show ¬ a.k = 2 by omega)]; rfl
      obtain ⟨k, r, x⟩ := a
      simp only at h12 h3 ha
      have h1' : (k == 1) = false := by simp; omega
      have h2' : (k == 2) = false := by simp; omega
      have h3' : (k == 3) = false := by simp; omega
      have HA := Lib.hid ha
      clear hat hdef hx ha h3 h12
      go_enter Tryz.func46, Tryz.ntmps46
      go_wp2_with (fail)
      go_ret
      exact ⟨ret_bool HA.out, HB.out _⟩
theorem below_q {B : Nat} {w W : World} (h : Below B w W) : Below B w W.drew := ⟨h.os, h.tape, h.output, h.size, h.block⟩
set_option maxRecDepth 100000 in
set_option maxHeartbeats 6400000 in
theorem in_walk {n c : Nat} {a : Option Addr} {l : List At} {w : World} (h : Rd w n a l) (x : At) (hn : n ≤ 100000) : Calls Tryz.prog 61 #[.slice a n c, .agg #[.int .u8 x.k, .int .i64 x.r, .string x.x]] w fun e w' => e = .returned (.bool (decide (x ∈ l))) ∧ Below w.heap.size w w' := by
  have mixed : Tryz.prog.follows .mixedOrders = true := by kernel_rfl
  have HEQ := Lib.hid eqIn
  have HGD := Lib.hid (show ∀ (op : BinOp) (u v : Operand) (a b : At) (w : World), (eqGuard op 69 u v (.agg #[.int .u8 a.k, .int .i64 a.r, .string a.x]) (.agg #[.int .u8 b.k, .int .i64 b.r, .string b.x])).run Tryz.prog w = .ok () w from fun op u v a b w => eqAt.2 op u v a b w)
  have H := Lib.hid h
  have HB := Lib.hid (fun O => al_new (W := w) O)
  clear h
  go_enter Tryz.func61, Tryz.ntmps61
  go_wp2_with (fail)
  have HN := Lib.hid fun O => heap_alloc_new w O
  go_loopg [5, 8] n (fun gh _ i wr => ∃ j q : Nat, j ≤ n ∧ n - j ≤ gh ∧ i = .int .i64 (j : Int) ∧ wr = (w.alloc (.cells #[.int .u8 x.k, .int .i64 x.r, .string x.x] 69)).drewN q ∧ Hid (x ∉ l.take j))
  case atStart => exact ⟨0, 0, Nat.zero_le _, by omega, rfl, rfl, Lib.hid (by simp)⟩
  case round =>
    obtain ⟨j, q, hj, hgh, rfl, rfl, HA⟩ := hrel
    have hbb : ∀ O : Obj, Below w.heap.size w ((w.alloc O).drewN q) := fun O => ⟨rfl, rfl, rfl, (al_new O).size, (al_new O).block⟩
    have HBB := Lib.hid hbb
    clear hbb
    by_cases hlt : j < n
    · have hjl : j < l.length := by rw [H.out.len]; exact hlt
      obtain ⟨b, o, rfl, a0, a1, a2⟩ := (H.out.at_.below (al_new (.cells #[.int .u8 x.k, .int .i64 x.r, .string x.x] 69))).get j hjl
      obtain ⟨⟨b0, b1, b2⟩, -, -⟩ := c3 (HN.out (.cells #[.int .u8 x.k, .int .i64 x.r, .string x.x] 69))
      have htk := at_take l j hjl
      have hmem := aget_mem hjl
      generalize aget l j = y at *
      have HTK := Lib.hid htk; have HMEM := Lib.hid hmem
      have hgd := HGD.out
      have hq := HEQ.out y x
      simp only [enc] at hq
      clear htk hmem hjl
      by_cases he : y = x
      · have hd : decide (y = x) = true := decide_eq_true he
        rw [hd] at hq
        have HD := Lib.hid he
        clear hd he
        go_wp2_with (fail)
        go_region_o
        clear hgd hq a0 a1 a2 b0 b1 b2
        go_wp2_with (fail)
        go_ret
        exact ⟨ret_bool (decide_eq_true (by rw [← HD.out]; exact HMEM.out)).symm, below_q (HBB.out _)⟩
      · have hd : decide (y = x) = false := decide_eq_false he
        rw [hd] at hq
        have HD := Lib.hid he
        clear hd he
        go_wp2_with (fail)
        go_region_o
        clear hgd hq a0 a1 a2 b0 b1 b2
        go_wp2_with (fail)
        go_roundg (n - (j + 1))
        case measure => omega
        case rel => exact ⟨j + 1, q + 1, by omega, by omega, by go_num, rfl, Lib.hid (by rw [HTK.out]; simp only [List.mem_append, List.mem_singleton, not_or]; exact ⟨HA.out, fun e => HD.out e.symm⟩)⟩
    · obtain rfl : j = n := by omega
      have hno : x ∉ l := by
        have := HA.out
        rw [List.take_of_length_le (by rw [H.out.len]; exact Nat.le_refl _)] at this
        exact this
      have HNO := Lib.hid hno
      clear hno
      go_wp2_with (fail)
      go_ret
      exact ⟨ret_bool (decide_eq_false HNO.out).symm, HBB.out _⟩
end Effect
end Go.Proofs.YtabegjpledammaaGreatDoor
namespace Go.Proofs.YtabegjpledammaaGreatDoor
open Go.RowKit
set_option linter.unusedVariables false
set_option linter.unusedSimpArgs false
namespace Effect

/-! ### Mathematics -/
theorem ins_no {x : At} : ∀ {l : List At}, (∀ y ∈ l, lessA x y = false) → insA x l = l ++ [x]
  | [], _ => rfl
  | y :: l, h => by
    unfold insA
    rw [if_neg (by rw [h y (by simp)]; simp), ins_no fun z hz => h z (by simp [hz])]
    rfl
theorem ins_at {x z : At} : ∀ {l : List At}, (∀ y ∈ l, lessA x y = false) → lessA x z = true → insA x (l ++ [z]) = l ++ [x] ++ [z]
  | [], _, hz => by simp [insA, hz]
  | y :: l, h, hz => by
    rw [List.cons_append]
    unfold insA
    rw [if_neg (by rw [h y (by simp)]; simp), ins_at (fun z hz => h z (by simp [hz])) hz]
    rfl
theorem ins_yes {x : At} {m : List At} : ∀ {l : List At}, (∃ y ∈ l, lessA x y = true) → insA x (l ++ m) = insA x l ++ m
  | [], h => by obtain ⟨y, hy, _⟩ := h; cases hy
  | y :: l, h => by
    rw [List.cons_append]
    unfold insA
    split
    · rfl
    · rename_i hn
      rw [ins_yes (l := l) (by
        obtain ⟨z, hz, h1⟩ := h
        rcases List.mem_cons.1 hz with rfl | hz
        · exact absurd h1 hn
        · exact ⟨z, hz, h1⟩)]
      rfl
/-- What put has made of the first ones. -/
def InsAt (x : At) (d : Bool) (l o : List At) : Prop := (d = false ∧ o = l ∧ ∀ y ∈ l, lessA x y = false) ∨ (d = true ∧ o = insA x l ∧ ∃ y ∈ l, lessA x y = true)
theorem InsAt.len {x : At} {d : Bool} {l o : List At} (h : InsAt x d l o) : o.length ≤ l.length + 1 := by
  rcases h with ⟨_, rfl, _⟩ | ⟨_, rfl, _⟩
  · omega
  · have h3 : ∀ y : List At, (insA x y).length = y.length + 1 := fun y => by
      induction y with
      | nil => rfl
      | cons z y ih2 => unfold insA; split <;> simp [ih2]
    rw [h3]; exact Nat.le_refl _
theorem InsAt.len_no {x : At} {l o : List At} (h : InsAt x false l o) : o.length = l.length := by
  rcases h with ⟨_, rfl, _⟩ | ⟨h, _⟩
  · rfl
  · cases h
theorem InsAt.step_no {x z : At} {l o : List At} (h : InsAt x false l o) (hz : lessA x z = false) : InsAt x false (l ++ [z]) (o ++ [z]) := by
  rcases h with ⟨_, rfl, h⟩ | ⟨h, _⟩
  · exact .inl ⟨rfl, rfl, fun y hy => by
      rcases List.mem_append.1 hy with hy | hy
      · exact h y hy
      · rw [List.mem_singleton] at hy; rw [hy]; exact hz⟩
  · cases h
theorem InsAt.step_at {x z : At} {l o : List At} (h : InsAt x false l o) (hz : lessA x z = true) : InsAt x true (l ++ [z]) (o ++ [x] ++ [z]) := by
  rcases h with ⟨_, rfl, h⟩ | ⟨h, _⟩
  · exact .inr ⟨rfl, (ins_at h hz).symm, z, by simp, hz⟩
  · cases h
theorem InsAt.step_yes {x z : At} {l o : List At} (h : InsAt x true l o) : InsAt x true (l ++ [z]) (o ++ [z]) := by
  rcases h with ⟨h, _⟩ | ⟨_, rfl, h⟩
  · cases h
  · refine .inr ⟨rfl, (ins_yes h).symm, ?_⟩
    obtain ⟨y, hy, h1⟩ := h
    exact ⟨y, by simp [hy], h1⟩
theorem InsAt.end_no {x : At} {l o : List At} (h : InsAt x false l o) : o ++ [x] = insA x l := by
  rcases h with ⟨_, rfl, h⟩ | ⟨h, _⟩
  · exact (ins_no h).symm
  · cases h
theorem InsAt.end_yes {x : At} {l o : List At} (h : InsAt x true l o) : o = insA x l := by
  rcases h with ⟨h, _⟩ | ⟨_, h, _⟩
  · cases h
  · exact h
theorem putA_no {e : List At} {x : At} (h : atomB x = false ∨ x ∈ e) : putA e x = e := by
  unfold putA
  rw [if_neg]
  rintro ⟨h1, h2⟩
  rcases h with h | h
  · rw [h] at h1; cases h1
  · exact h2 h
theorem putA_yes {e : List At} {x : At} (h : atomB x = true) (h2 : x ∉ e) : putA e x = insA x e := by
  unfold putA; rw [if_pos ⟨h, h2⟩]
/-! ### Less -/
set_option maxHeartbeats 3200000 in
theorem less_walk (a b : At) (w : World) : Calls Tryz.prog 51 #[.agg #[.int .u8 a.k, .int .i64 a.r, .string a.x], .agg #[.int .u8 b.k, .int .i64 b.r, .string b.x]] w fun e w' => e = .returned (.bool (lessA a b)) ∧ Below w.heap.size w w' := by
  have hb2 : ∀ O O', Below w.heap.size w ((w.alloc O).alloc O') := fun O O' => (al_new O).alloc (by simp) O'
  have HB := Lib.hid hb2
  have hbx := fun O O' => at_more (w := w.alloc O) (o := O) (o' := O') (N := w.heap.size) (at_new rfl)
  clear hb2
  by_cases hk : a.k = b.k
  · by_cases hr : a.r = b.r
    · have hl : Op.bytesLess a.x.toList b.x.toList = lessA a b := by unfold lessA; rw [if_pos hk, if_pos hr]; rfl
      obtain ⟨k, r, x⟩ := a
      obtain ⟨k', r', x'⟩ := b
      simp only at hk hr hl
      subst hk hr
      have hk0 : (k == k) = true := by simp
      have hr0 : (r == r) = true := by simp
      have HL := Lib.hid hl
      clear hl
      go_enter Tryz.func51, Tryz.ntmps51
      go_wp2_with (fail)
      go_ret
      exact ⟨ret_bool HL.out, HB.out _ _⟩
    · have hl : decide (a.r < b.r) = lessA a b := by unfold lessA; rw [if_pos hk, if_neg hr]
      obtain ⟨k, r, x⟩ := a
      obtain ⟨k', r', x'⟩ := b
      simp only at hk hr hl
      subst hk
      have hk0 : (k == k) = true := by simp
      have hr0 : (r == r') = false := by simpa using hr
      have HL := Lib.hid hl
      clear hl hr
      go_enter Tryz.func51, Tryz.ntmps51
      go_wp2_with (fail)
      go_ret
      exact ⟨ret_bool HL.out, HB.out _ _⟩
  · have hl : decide (a.k < b.k) = lessA a b := by unfold lessA; rw [if_neg hk]
    obtain ⟨k, r, x⟩ := a
    obtain ⟨k', r', x'⟩ := b
    simp only at hk hl
    have hk0 : (k == k') = false := by simpa using hk
    have HL := Lib.hid hl
    clear hl hk
    go_enter Tryz.func51, Tryz.ntmps51
    go_wp2_with (fail)
    go_ret
    exact ⟨ret_bool HL.out, HB.out _ _⟩
end Effect
end Go.Proofs.YtabegjpledammaaGreatDoor
namespace Go.Proofs.YtabegjpledammaaGreatDoor
open Go.RowKit
set_option linter.unusedVariables false
set_option linter.unusedSimpArgs false
namespace Effect

theorem row_new {B : Nat} {w : World} (hB : B ≤ w.heap.size) : Row B (w.alloc (.cells #[] 69)) (.slice (some ⟨w.heap.size, 0, none⟩) 0 0) [] :=
  ⟨rfl, .inr ⟨w.heap.size, 0, #[], rfl, hB, heap_alloc_new w _, Nat.le_refl _, by unfold maxLen; omega, rfl, rfl⟩⟩
theorem cells_stay {W V : World} {b o : Nat} {x : At} (h : W.cell? ⟨b, o, none⟩ = some (.int .u8 x.k) ∧ W.cell? ⟨b, o + 1, none⟩ = some (.int .i64 x.r) ∧ W.cell? ⟨b, o + 2, none⟩ = some (.string x.x)) (hb : V.heap[b]? = W.heap[b]?) : V.cell? ⟨b, o, none⟩ = some (.int .u8 x.k) ∧ V.cell? ⟨b, o + 1, none⟩ = some (.int .i64 x.r) ∧ V.cell? ⟨b, o + 2, none⟩ = some (.string x.x) :=
  ⟨(World.cell?_of_block hb).trans h.1, (World.cell?_of_block hb).trans h.2.1, (World.cell?_of_block hb).trans h.2.2⟩
theorem cells_below {B : Nat} {W V : World} {b o : Nat} {x : At} (h : W.cell? ⟨b, o, none⟩ = some (.int .u8 x.k) ∧ W.cell? ⟨b, o + 1, none⟩ = some (.int .i64 x.r) ∧ W.cell? ⟨b, o + 2, none⟩ = some (.string x.x)) (hb : b < B) (hV : Below B W V) : V.cell? ⟨b, o, none⟩ = some (.int .u8 x.k) ∧ V.cell? ⟨b, o + 1, none⟩ = some (.int .i64 x.r) ∧ V.cell? ⟨b, o + 2, none⟩ = some (.string x.x) := cells_stay h (hV.block b hb)
theorem w2cells {W : World} {b o : Nat} {l : List At} (h : AtsAt W (some ⟨b, o, none⟩) l) (j : Nat) (hj : j < l.length) : W.cell? ⟨b, o + j * 3, none⟩ = some (.int .u8 (aget l j).k) ∧ W.cell? ⟨b, o + j * 3 + 1, none⟩ = some (.int .i64 (aget l j).r) ∧ W.cell? ⟨b, o + j * 3 + 2, none⟩ = some (.string (aget l j).x) := by
  obtain ⟨b', o', hp, h1⟩ := h.get j hj
  injection hp with hp; injection hp with e1 e2; subst e1 e2
  exact h1
/-- One more, appended. -/
theorem Row.push {B m c1 : Nat} {W w' : World} {a1 : Option Addr} {v' : Value} {l : List At} {x : At} (hm : m = l.length) (h : w'.ownsRow B 69 3 v' (m + 1) (flat l ++ enc x)) : Row B w' v' (l ++ [x]) := by
  subst hm
  unfold Row
  rw [flat_append, flat_single, List.length_append]
  exact h
set_option maxRecDepth 100000 in
set_option maxHeartbeats 12800000 in
theorem put_walk {B n c : Nat} {a : Option Addr} {l : List At} {x : At} {w : World} (h : Row B w (.slice a n c) l) (hB : B ≤ w.heap.size) (hok : ∀ y ∈ l, y.x.size ≤ maxLen) (hx : x.x.size ≤ maxLen) (hn : n ≤ 10000) : Calls Tryz.prog 74 #[.slice a n c, .agg #[.int .u8 x.k, .int .i64 x.r, .string x.x]] w fun e w' => ∃ v, e = .returned v ∧ Row B w' v (putA l x) ∧ Below w.heap.size w w' := by
  have hrd := Rd.of_row h hok
  obtain ⟨i0, hi, hz0, hz2, hz3⟩ := info_parts
  have HI := Lib.hid hi; have HZ0 := Lib.hid hz0; have HZ2 := Lib.hid hz2; have HZ3 := Lib.hid hz3
  have H := Lib.hid h; have HR := Lib.hid hrd; have HB := Lib.hid hB; have HX := Lib.hid hx
  have HN := Lib.hid fun O => heap_alloc_new w O
  have HAT := Lib.hid fun W => refAtom_walk x W hx
  clear h hB hok hx hrd hi hz0 hz2 hz3
  go_enter Tryz.func74, Tryz.ntmps74
  go_wp2_with (fail)
  refine (HAT.out _).mono ?_
  rintro e w1 ⟨rfl, hb1⟩
  have hbox := (hb1.block w.heap.size (by simp)).trans (HN.out _)
  have HB1 := Lib.hid (below_row (Below.refl _ _) hb1 (Nat.le_refl _))
  have HBOX := Lib.hid hbox
  clear hb1
  obtain ⟨⟨x0, x1, x2⟩, -, -⟩ := c3 hbox
  clear hbox
  cases hat : atomB x
  · have HA := Lib.hid hat
    clear hat
    go_wp2_with (fail)
    go_ret
    exact ⟨_, rfl, by rw [putA_no (.inl HA.out)]; exact H.out.below HB1.out, HB1.out⟩
  · have HA := Lib.hid hat
    have HIN := Lib.hid (in_walk (c := c) (HR.out.below HB1.out) x (by omega))
    clear hat
    go_wp2_with (fail)
    refine HIN.out.mono ?_
    rintro e w2 ⟨rfl, hb2⟩
    have HB2 := Lib.hid (below_then HB1.out hb2 HB1.out.size)
    have HBOX2 := Lib.hid ((hb2.block _ (lt_of_block HBOX.out)).trans HBOX.out)
    clear hb2 x0 x1 x2
    by_cases hin : x ∈ l
    · have HIN2 := Lib.hid hin
      rw [decide_eq_true hin]
      clear hin
      go_wp2_with (fail)
      go_ret
      exact ⟨_, rfl, by rw [putA_no (.inr HIN2.out)]; exact H.out.below HB2.out, HB2.out⟩
    · have HIN2 := Lib.hid hin
      rw [decide_eq_false hin]
      clear hin
      go_wp2_with (fail)
      have HS0 := Lib.hid HB2.out.size
      go_loopw [5, 6, 7, 20] (fun own dn _ i wr => ∃ (j m c1 : Nat) (a1 : Option Addr) (d : Bool) (o : List At), j ≤ n ∧ m ≤ j + 1 ∧ i = .int .i64 (j : Int) ∧ dn = .bool d ∧ own = .slice a1 m c1 ∧ Hid (m = o.length) ∧ Hid (InsAt x d (l.take j) o) ∧ Hid (Row w2.heap.size wr (.slice a1 m c1) o) ∧ Hid (Below w2.heap.size w2 wr)) (fun _ _ _ i _ => n - (intOf i).toNat)
      case atStart => exact ⟨0, 0, 0, some ⟨w2.heap.size, 0, none⟩, false, [], Nat.zero_le _, Nat.zero_le _, rfl, rfl, rfl, Lib.hid rfl, Lib.hid (.inl ⟨rfl, by simp, by simp⟩), Lib.hid (row_new (Nat.le_refl _)), Lib.hid (al_new _)⟩
      case round =>
        obtain ⟨j, m, c1, a1, d, o, hj, hmj, rfl, rfl, rfl, HM, HIA, HRW, HS⟩ := hrel
        have HBX := Lib.hid ((HS.out.block _ (lt_of_block HBOX2.out)).trans HBOX2.out)
        by_cases hlt : j < n
        · have hjl : j < l.length := by rw [HR.out.len]; exact hlt
          obtain ⟨b, p, rfl, e0, e1, e2⟩ := ((HR.out.below HB2.out).below HS.out).at_.get j hjl
          have htk := at_take l j hjl
          have hblk : b < w2.heap.size := by
            obtain ⟨b', p', hbp, q0, -, -⟩ := (HR.out.below HB2.out).at_.get j hjl
            injection hbp with hbp; injection hbp with hbp; subst hbp
            exact World.block_lt_of_cell? w2 _ q0
          have hew2 := w2cells (HR.out.below HB2.out).at_ j hjl
          generalize aget l j = z at *
          have HTK := Lib.hid htk; have HE := Lib.hid (And.intro e0 (And.intro e1 e2)); have HBL := Lib.hid hblk
          have HEW2 := Lib.hid hew2
          clear htk hjl hblk hew2
          cases d
          · have HRD := Lib.hid (HRW.out)
            go_upto_region 8 with (fail)
            refine wp_region_held_drew (S := fun (V : World) => V.heap[w.heap.size]? = wr.heap[w.heap.size]? ∧ V.heap[b]? = wr.heap[b]?) (by kernel_rfl) ⟨rfl, rfl⟩ (fun hHeld => ?_)
            clear e0 e1 e2
            refine wpAnyH_take (i := 0) (v := .bool false) rfl (by kernel_rfl) (by kernel_rfl) (by kernel_rfl) (fun _ _ _ h => h) (Or.inl ⟨by rfl, ?_⟩) (by assumption) ?_
            · intro w' hSw
              first | (go_simp; done) | (go_simp; intro h0; omega) | rfl
            try simp only [Act.put, List.getElem_toArray, List.getElem_cons_succ, List.getElem_cons_zero, List.setIfInBounds_toArray, List.set_cons_zero, List.set_cons_succ]
            refine wpAnyH_take (i := 1) (v := .bool true) rfl (by kernel_rfl) (by kernel_rfl) (by kernel_rfl) (fun _ _ _ h => h) (Or.inl ⟨by rfl, ?_⟩) (by assumption) ?_
            · intro w' hSw
              first | (go_simp; done) | (go_simp; intro h0; omega) | rfl
            try simp only [Act.put, List.getElem_toArray, List.getElem_cons_succ, List.getElem_cons_zero, List.setIfInBounds_toArray, List.set_cons_zero, List.set_cons_succ]
            refine wpAnyH_take (i := 2) (v := .bool true) rfl (by kernel_rfl) (by kernel_rfl) (by kernel_rfl) (fun _ _ _ h => h) (Or.inl ⟨by rfl, ?_⟩) (by assumption) ?_
            · intro w' hSw
              first | (go_simp; done) | (go_simp; intro h0; omega) | rfl
            try simp only [Act.put, List.getElem_toArray, List.getElem_cons_succ, List.getElem_cons_zero, List.setIfInBounds_toArray, List.set_cons_zero, List.set_cons_succ]
            refine wpAnyH_take (i := 3) (v := .agg #[.int .u8 x.k, .int .i64 x.r, .string x.x]) rfl (by kernel_rfl) (by kernel_rfl) (by kernel_rfl) (fun _ _ _ h => h) (Or.inl ⟨by rfl, ?_⟩) (by assumption) ?_
            · intro w' hSw
              obtain ⟨⟨x0, x1, x2⟩, -, -⟩ := c3 (hSw.1.trans HBX.out)
              clear hSw
              first | (go_simp; done) | (go_simp; intro h0; omega) | rfl
            try simp only [Act.put, List.getElem_toArray, List.getElem_cons_succ, List.getElem_cons_zero, List.setIfInBounds_toArray, List.set_cons_zero, List.set_cons_succ]
            refine wpAnyH_take (i := 4) (v := .slice (some ⟨b, p, none⟩) n c) rfl (by kernel_rfl) (by kernel_rfl) (by kernel_rfl) (fun _ _ _ h => h) (Or.inl ⟨by rfl, ?_⟩) (by assumption) ?_
            · intro w' hSw
              first | (go_simp; done) | (go_simp; intro h0; omega) | rfl
            try simp only [Act.put, List.getElem_toArray, List.getElem_cons_succ, List.getElem_cons_zero, List.setIfInBounds_toArray, List.set_cons_zero, List.set_cons_succ]
            refine wpAnyH_take (i := 5) (v := .int .i64 (j : Int)) rfl (by kernel_rfl) (by kernel_rfl) (by kernel_rfl) (fun _ _ _ h => h) (Or.inl ⟨by rfl, ?_⟩) (by assumption) ?_
            · intro w' hSw
              first | (go_simp; done) | (go_simp; intro h0; omega) | rfl
            try simp only [Act.put, List.getElem_toArray, List.getElem_cons_succ, List.getElem_cons_zero, List.setIfInBounds_toArray, List.set_cons_zero, List.set_cons_succ]
            refine wpAnyH_take (i := 6) (v := .pointer (some ⟨b, p + j * 3, none⟩)) rfl (by kernel_rfl) (by kernel_rfl) (by kernel_rfl) (fun _ _ _ h => h) (Or.inl ⟨by rfl, ?_⟩) (by assumption) ?_
            · intro w' hSw
              first | (go_simp; done) | (go_simp; intro h0; omega) | rfl
            try simp only [Act.put, List.getElem_toArray, List.getElem_cons_succ, List.getElem_cons_zero, List.setIfInBounds_toArray, List.set_cons_zero, List.set_cons_succ]
            refine wpAnyH_take (i := 7) (v := .agg #[.int .u8 z.k, .int .i64 z.r, .string z.x]) rfl (by kernel_rfl) (by kernel_rfl) (by kernel_rfl) (fun _ _ _ h => h) (Or.inl ⟨by rfl, ?_⟩) (by assumption) ?_
            · intro w' hSw
              obtain ⟨e0, e1, e2⟩ := cells_stay HE.out hSw.2
              clear hSw
              first | (go_simp; done) | (go_simp; intro h0; omega) | rfl
            try simp only [Act.put, List.getElem_toArray, List.getElem_cons_succ, List.getElem_cons_zero, List.setIfInBounds_toArray, List.set_cons_zero, List.set_cons_succ]
            refine wpAnyH_ready (rs := [8]) (by kernel_rfl) (by simp) ?_
            refine AllReadyH.cons rfl (fun K hK => ?_) AllReadyH.nil
            have HK2 := Lib.hid hK
            clear hK
            try rw [if_pos (by rfl)]
            have HLS := Lib.hid fun W => less_walk x z W
            go_simp
            refine (HLS.out _).mono ?_
            rintro e w4 ⟨rfl, hb4⟩
            have hb4' : Below wr.heap.size wr w4 := ⟨hb4.os, hb4.tape, hb4.output, hb4.size, hb4.block⟩
            have HRW4 := Lib.hid (HRW.out.below hb4'); have HS4 := Lib.hid (below_then HS.out hb4' HS.out.size)
            have HBX4 := Lib.hid ((hb4'.block _ (lt_of_block HBX.out)).trans HBX.out)
            have HE4 := Lib.hid (cells_stay HE.out (hb4'.block b (Nat.lt_of_lt_of_le HBL.out HS.out.size)))
            refine HK2.out _ _ ⟨hb4'.block _ (lt_of_block HBX.out), hb4'.block b (Nat.lt_of_lt_of_le HBL.out HS.out.size)⟩ (fun hHeld => ?_)
            clear hb4 hb4' HK2
            try simp only [Act.put, List.getElem_toArray, List.getElem_cons_succ, List.getElem_cons_zero, List.setIfInBounds_toArray, List.set_cons_zero, List.set_cons_succ]
            clear K
            refine wpAnyH_take (i := 9) (v := .bool (lessA x z)) rfl (by kernel_rfl) (by kernel_rfl) (by kernel_rfl) (fun _ _ _ h => h) (Or.inl ⟨by rfl, ?_⟩) (by assumption) ?_
            · intro w' hSw
              first | (go_simp; done) | (go_simp; intro h0; omega) | rfl
            try simp only [Act.put, List.getElem_toArray, List.getElem_cons_succ, List.getElem_cons_zero, List.setIfInBounds_toArray, List.set_cons_zero, List.set_cons_succ]
            refine wpAnyH_done (by kernel_rfl) ?_ _
            clear hHeld
            obtain ⟨⟨x0, x1, x2⟩, -, -⟩ := c3 HBX4.out
            obtain ⟨e0, e1, e2⟩ := HE4.out
            have HE2 := Lib.hid HEW2.out
            cases hls : lessA x z
            · have HLZ := Lib.hid hls
              clear hls
              go_wp2_with (at_builtin; refine wpList_append_own_at _ rfl (.tmp 37) (.tmp 42) 22 rfl w2.heap.size 69 i0 _ 3 32 Tryz.underlying22 HI.out HZ0.out HZ2.out HZ3.out rfl (by omega) (.slice a1 m c1) m (flat o) rfl (HRW4.out.own HM.out (al_new _)) _ 1 1 (enc z) rfl rfl (new_atom rfl) (enc_one z) (by unfold maxLen; omega) (by omega) (by have := HS4.out.size; simp; omega) ?_; intro v' w5 hown hgr hnil hat; obtain ⟨a3, c3', rfl, -, -⟩ := own_slice hown; have HR3 := Lib.hid (Row.push (W := w) (c1 := 0) (a1 := none) HM.out hown); have HS3 := Lib.hid ((below_then HS4.out (al_new _) HS4.out.size).grown hgr (by have := HS4.out.size; simp; omega) fun g hg => (HRW4.out.lt g hg).1); clear hown hgr hnil hat)
              go_roundw
              case rel => exact ⟨j + 1, m + 1, c3', a3, false, o ++ [z], by omega, by omega, by go_num, rfl, rfl, Lib.hid (by rw [List.length_append, ← HM.out]; rfl), Lib.hid (by rw [HTK.out]; exact HIA.out.step_no HLZ.out), HR3, HS3⟩
              case measure => simp [intOf]; omega
            · have HLZ := Lib.hid hls
              clear hls
              go_wp2_with (first | (at_builtin; refine wpList_append_own_at _ rfl (.tmp 33) (.tmp 35) 22 rfl w2.heap.size 69 i0 _ 3 32 Tryz.underlying22 HI.out HZ0.out HZ2.out HZ3.out rfl (by omega) (.slice a1 m c1) m (flat o) rfl (HRW4.out.own HM.out (al_new _)) _ 1 1 (enc x) rfl rfl (new_atom rfl) (enc_one x) (by unfold maxLen; omega) (by omega) (by have := HS4.out.size; simp; omega) ?_; intro v' w5 hown hgr hnil hat; obtain ⟨a3, c3', rfl, -, -⟩ := own_slice hown; have HR3 := Lib.hid (Row.push (W := w) (c1 := 0) (a1 := none) HM.out hown); have HS3 := Lib.hid ((below_then HS4.out (al_new _) HS4.out.size).grown hgr (by have := HS4.out.size; simp; omega) fun g hg => (HRW4.out.lt g hg).1); clear hown hgr hnil hat; obtain ⟨y0, y1, y2⟩ := cells_below HE2.out HBL.out HS3.out) | (at_builtin; refine wpList_append_own_at _ rfl (.tmp 37) (.tmp 42) 22 rfl w2.heap.size 69 i0 _ 3 32 Tryz.underlying22 HI.out HZ0.out HZ2.out HZ3.out rfl (by omega) (.slice a3 (m + 1) c3') (m + 1) (flat (o ++ [x])) rfl (HR3.out.own (by rw [List.length_append, ← HM.out]; rfl) (al_new _)) _ 1 1 (enc z) rfl rfl (new_atom rfl) (enc_one z) (by unfold maxLen; omega) (by omega) (by have := HS3.out.size; simp; omega) ?_; intro v' w6 hown hgr hnil hat; obtain ⟨a4, c4', rfl, -, -⟩ := own_slice hown; have HR4 := Lib.hid (Row.push (W := w) (c1 := 0) (a1 := none) (by rw [List.length_append, ← HM.out]; rfl) hown); have HS5 := Lib.hid ((below_then HS3.out (al_new _) HS3.out.size).grown hgr (by have := HS3.out.size; simp; omega) fun g hg => (HR3.out.lt g hg).1); clear hown hgr hnil hat))
              go_roundw
              case rel => exact ⟨j + 1, m + 1 + 1, c4', a4, true, o ++ [x] ++ [z], by omega, by have := HIA.out.len_no; have := HM.out; have e := List.length_take (i := j) (l := l); omega, by go_num, rfl, rfl, Lib.hid (by rw [List.length_append, List.length_append, ← HM.out]; rfl), Lib.hid (by rw [HTK.out]; exact HIA.out.step_at HLZ.out), HR4, HS5⟩
              case measure => simp [intOf]; omega
          · obtain ⟨⟨x0, x1, x2⟩, -, -⟩ := c3 HBX.out
            have mixed : Tryz.prog.follows .mixedOrders = true := by kernel_rfl
            go_wp2_with (fail)
            go_region_o
            have hdr : Below wr.heap.size wr wr.drew := (Below.refl _ _).drew
            have HRW4 := Lib.hid (HRW.out.below hdr); have HS4 := Lib.hid (below_then HS.out hdr HS.out.size)
            have HE4 := Lib.hid (cells_stay (V := wr.drew) HE.out rfl)
            clear hdr e0 e1 e2 x0 x1 x2
            generalize wr.drew = wq at *
            obtain ⟨e0, e1, e2⟩ := HE4.out
            go_wp2_with (at_builtin; refine wpList_append_own_at _ rfl (.tmp 37) (.tmp 42) 22 rfl w2.heap.size 69 i0 _ 3 32 Tryz.underlying22 HI.out HZ0.out HZ2.out HZ3.out rfl (by omega) (.slice a1 m c1) m (flat o) rfl (HRW4.out.own HM.out (al_new _)) _ 1 1 (enc z) rfl rfl (new_atom rfl) (enc_one z) (by unfold maxLen; omega) (by omega) (by have := HS4.out.size; simp; omega) ?_; intro v' w5 hown hgr hnil hat; obtain ⟨a3, c3', rfl, -, -⟩ := own_slice hown; have HR3 := Lib.hid (Row.push (W := w) (c1 := 0) (a1 := none) HM.out hown); have HS3 := Lib.hid ((below_then HS4.out (al_new _) HS4.out.size).grown hgr (by have := HS4.out.size; simp; omega) fun g hg => (HRW4.out.lt g hg).1); clear hown hgr hnil hat)
            go_roundw
            case rel => exact ⟨j + 1, m + 1, c3', a3, true, o ++ [z], by omega, by omega, by go_num, rfl, rfl, Lib.hid (by rw [List.length_append, ← HM.out]; rfl), Lib.hid (by rw [HTK.out]; exact HIA.out.step_yes), HR3, HS3⟩
            case measure => simp [intOf]; omega
        · obtain rfl : j = n := by omega
          have hia := HIA.out
          rw [List.take_of_length_le (by rw [HR.out.len]; exact Nat.le_refl _)] at hia
          have HIE := Lib.hid hia
          obtain ⟨⟨x0, x1, x2⟩, -, -⟩ := c3 HBX.out
          clear hia
          cases d
          · go_wp2_with (at_builtin; refine wpList_append_own_at _ rfl (.tmp 47) (.tmp 49) 22 rfl w2.heap.size 69 i0 _ 3 32 Tryz.underlying22 HI.out HZ0.out HZ2.out HZ3.out rfl (by omega) (.slice a1 m c1) m (flat o) rfl (HRW.out.own HM.out (al_new _)) _ 1 1 (enc x) rfl rfl (new_atom rfl) (enc_one x) (by unfold maxLen; omega) (by omega) (by have := HS.out.size; simp; omega) ?_; intro v' w3 hown hgr hnil hat; obtain ⟨a3, c3', rfl, -, -⟩ := own_slice hown; have HR3 := Lib.hid (Row.push (W := w3) (c1 := 0) (a1 := none) HM.out hown); have HS3 := Lib.hid ((below_then HS.out (al_new _) HS.out.size).grown hgr (by have := HS.out.size; simp; omega) fun g hg => (HRW.out.lt g hg).1); clear hown hgr hnil hat)
            go_ret
            exact ⟨_, rfl, by rw [putA_yes HA.out HIN2.out, ← HIE.out.end_no]; exact own_lower HR3.out (Nat.le_trans HB.out HB2.out.size), below_then HB2.out HS3.out HB2.out.size⟩
          · go_wp2_with (fail)
            go_ret
            exact ⟨_, rfl, by rw [putA_yes HA.out HIN2.out, ← HIE.out.end_yes]; exact own_lower HRW.out (Nat.le_trans HB.out HB2.out.size), below_then HB2.out HS.out HB2.out.size⟩
end Effect
end Go.Proofs.YtabegjpledammaaGreatDoor
namespace Go.Proofs.YtabegjpledammaaGreatDoor
open Go.RowKit
set_option linter.unusedVariables false
set_option linter.unusedSimpArgs false
namespace Effect

theorem putA_le (e : List At) (x : At) : (putA e x).length ≤ e.length + 1 := by
  unfold putA
  split
  · have h3 : ∀ y : List At, (insA x y).length = y.length + 1 := fun y => by
      induction y with
      | nil => rfl
      | cons z y ih2 => unfold insA; split <;> simp [ih2]
    rw [h3]; exact Nat.le_refl _
  · omega
theorem putA_ok {e : List At} {x : At} {n : Nat} (h : ∀ y ∈ e, y.x.size ≤ n) (hx : x.x.size ≤ n) : ∀ y ∈ putA e x, y.x.size ≤ n := fun y hy => by
  rcases (mem_put e x y).1 hy with h1 | ⟨rfl, _⟩
  · exact h y h1
  · exact hx
set_option maxRecDepth 100000 in
set_option maxHeartbeats 6400000 in
theorem refOf_walk {n c : Nat} {a : Option Addr} {l : List At} {w : World} (h : Rd w n a l) (hn : n ≤ 10000) : Calls Tryz.prog 60 #[.slice a n c] w fun e w' => ∃ a' m c', e = .returned (.slice a' m c') ∧ m ≤ n ∧ Row w.heap.size w' (.slice a' m c') (ofA l) ∧ Rd w' m a' (ofA l) ∧ Below w.heap.size w w' := by
  have H := Lib.hid h
  clear h
  go_enter Tryz.func60, Tryz.ntmps60
  go_wp2_with (fail)
  go_loopw [3, 4, 8] (fun own _ i wr => ∃ (j m c1 : Nat) (a1 : Option Addr) (o : List At), j ≤ n ∧ m ≤ j ∧ i = .int .i64 (j : Int) ∧ own = .slice a1 m c1 ∧ Hid (m = o.length) ∧ Hid (o = (l.take j).foldl putA []) ∧ Hid (∀ y ∈ o, y.x.size ≤ maxLen) ∧ Hid (Row w.heap.size wr (.slice a1 m c1) o) ∧ Hid (Below w.heap.size w wr)) (fun _ _ i _ => n - (intOf i).toNat)
  case atStart => exact ⟨0, 0, 0, some ⟨w.heap.size, 0, none⟩, [], Nat.zero_le _, Nat.le_refl _, rfl, rfl, Lib.hid rfl, Lib.hid (by simp), Lib.hid (fun y hy => by cases hy), Lib.hid (row_new (Nat.le_refl _)), Lib.hid (al_new _)⟩
  case round =>
    obtain ⟨j, m, c1, a1, o, hj, hmj, rfl, rfl, HM, HO, HOK, HRW, HS⟩ := hrel
    by_cases hlt : j < n
    · have hjl : j < l.length := by rw [H.out.len]; exact hlt
      obtain ⟨b, p, rfl, e0, e1, e2⟩ := (H.out.at_.below HS.out).get j hjl
      have hx := H.out.ok _ (aget_mem hjl)
      have htk := at_take l j hjl
      generalize aget l j = x at *
      have HTK := Lib.hid htk; have HX := Lib.hid hx
      have HP := Lib.hid (put_walk HRW.out HS.out.size HOK.out hx (by omega))
      clear htk hjl hx
      go_wp2_with (fail)
      refine HP.out.mono ?_
      rintro e w2 ⟨v, rfl, hr, hb⟩
      obtain ⟨a2, c2, rfl⟩ := hr.slice
      have HR2 := Lib.hid hr; have HS2 := Lib.hid (below_then HS.out hb HS.out.size)
      have hle := putA_le o x
      rw [← HM.out] at hle
      generalize hm2 : (putA o x).length = m2 at *
      have HM2 := Lib.hid hm2
      clear hr hb hm2
      go_wp2_with (fail)
      go_roundw
      case rel => exact ⟨j + 1, m2, c2, a2, putA o x, by omega, by omega, by go_num, rfl, Lib.hid HM2.out.symm, Lib.hid (by rw [HTK.out, List.foldl_append, ← HO.out]; rfl), Lib.hid (putA_ok HOK.out HX.out), HR2, HS2⟩
      case measure => simp [intOf]; omega
    · obtain rfl : j = n := by omega
      have ho := HO.out
      rw [List.take_of_length_le (by rw [H.out.len]; exact Nat.le_refl _)] at ho
      have HOF := Lib.hid (show o = ofA l from ho)
      clear ho
      go_wp2_with (fail)
      go_ret
      refine ⟨a1, m, c1, rfl, hmj, by rw [← HOF.out]; exact HRW.out, by rw [← HOF.out]; exact Rd.of_row HRW.out HOK.out, HS.out⟩
end Effect
end Go.Proofs.YtabegjpledammaaGreatDoor
namespace Go.Proofs.YtabegjpledammaaGreatDoor
open Go.RowKit Go.ChangeShapes Go.WideShapes
namespace Views
open Chars (BytesAt Bytes)

/-- A slice of integers that came in: nil, or all its numbers up to the capacity. -/
def IsRow (k : IntKind) (w : World) (a : Option Addr) (len cap : Nat) (zs : List Int) : Prop :=
  (a = none ∧ len = 0 ∧ cap = 0 ∧ zs = []) ∨
  ∃ x, a = some x ∧ len ≤ cap ∧ cap ≤ maxLen ∧ zs.length = cap ∧ (∀ i, i < zs.length → w.cell? (x.add i) = some (.int k (zs.getD i 0))) ∧ ∀ n ∈ zs, (Lit.int k n).wf = true

/-- A slice of texts that came in. -/
def IsStrs (w : World) (a : Option Addr) (len cap : Nat) (ss : List ByteArray) : Prop :=
  (a = none ∧ len = 0 ∧ cap = 0 ∧ ss = []) ∨
  ∃ x, a = some x ∧ len ≤ cap ∧ cap ≤ maxLen ∧ ss.length = cap ∧ (∀ i, i < ss.length → w.cell? (x.add i) = some (.string (ss.getD i ByteArray.empty))) ∧ ∀ s ∈ ss, s.size ≤ maxLen

end Views
end Go.Proofs.YtabegjpledammaaGreatDoor
namespace Go.Proofs.YtabegjpledammaaGreatDoor
open Go.RowKit
set_option linter.unusedVariables false
set_option linter.unusedSimpArgs false
namespace Effect

def nget (l : List Int) (i : Nat) : Int := l.getD i 0
theorem nget_at {l : List Int} {i : Nat} (h : i < l.length) : l[i]? = some (nget l i) := by
  unfold nget; rw [List.getD_eq_getElem?_getD, List.getElem?_eq_getElem h]; rfl
theorem nget_mem {l : List Int} {i : Nat} (h : i < l.length) : nget l i ∈ l := List.mem_of_getElem? (nget_at h)
/-- A row of numbers that is read. -/
structure RdI (w : World) (n : Nat) (p : Option Addr) (l : List Int) : Prop where
  len : l.length = n
  at_ : l = [] ∨ ∃ b o, p = some ⟨b, o, none⟩ ∧ ∀ i, i < l.length → w.cell? ⟨b, o + i, none⟩ = some (.int .i64 (nget l i))
  ok : ∀ x ∈ l, -9223372036854775808 ≤ x ∧ x ≤ 9223372036854775807
theorem RdI.below {w W : World} {n : Nat} {p : Option Addr} {l : List Int} (h : RdI w n p l) (hb : Below w.heap.size w W) : RdI W n p l := by
  refine ⟨h.len, h.at_.imp id ?_, h.ok⟩
  rintro ⟨b, o, hp, hc⟩
  exact ⟨b, o, hp, fun i hi => (hb.cell (p := ⟨b, _, none⟩) (World.block_lt_of_cell? w _ (hc i hi))).trans (hc i hi)⟩
theorem RdI.get {w : World} {n : Nat} {p : Option Addr} {l : List Int} (h : RdI w n p l) (i : Nat) (hi : i < l.length) : ∃ b o, p = some ⟨b, o, none⟩ ∧ w.cell? ⟨b, o + i, none⟩ = some (.int .i64 (nget l i)) := by
  rcases h.at_ with rfl | ⟨b, o, hp, hc⟩
  · simp at hi
  · exact ⟨b, o, hp, hc i hi⟩
theorem RdI.of_row {w : World} {a : Option Addr} {len cap : Nat} {zs : List Int} (h : Views.IsRow .i64 w a len cap zs) : RdI w len a (zs.take len) ∧ len ≤ maxLen := by
  rcases h with ⟨rfl, rfl, rfl, rfl⟩ | ⟨x, rfl, h1, h2, h3, h4, h5⟩
  · exact ⟨⟨rfl, .inl rfl, fun x hx => by cases hx⟩, Nat.zero_le _⟩
  · have hl : (zs.take len).length = len := by rw [List.length_take]; omega
    refine ⟨⟨hl, ?_, fun y hy => wf_i64 (h5 y (List.mem_of_mem_take hy))⟩, by omega⟩
    by_cases h0 : len = 0
    · subst h0; exact .inl (by simp)
    · obtain ⟨b, o, s⟩ := x
      have hs : s = none := by
        have := World.cell?_spot (h4 0 (by omega))
        simpa [Addr.add] using this
      subst hs
      refine .inr ⟨b, o, rfl, fun i hi => ?_⟩
      rw [hl] at hi
      have := h4 i (by omega)
      rw [Addr.add_lit] at this
      rw [this]
      unfold nget
      rw [List.getD_eq_getElem?_getD, List.getD_eq_getElem?_getD, List.getElem?_take_of_lt hi]
theorem index_walk {n c : Nat} {p : Option Addr} {l : List Int} {w : World} (h : RdI w n p l) (hn : n ≤ 100000) (x : Int) : Calls Tryz.prog 69 #[.slice p n c, .int .i64 x] w fun e w' => e = .returned (.int .i64 (Lib.idxOf l x)) ∧ w' = w := by
  obtain ⟨rfl, h2, -⟩ := h
  rcases h2 with rfl | ⟨b, o, rfl, hc⟩
  · exact Tryz.slices_Index_int_empty p c x w
  · have := Tryz.slices_Index_int b o l.length c l x w (Nat.le_refl _) (by omega) hc
    rw [List.take_length] at this
    exact this
end Effect
end Go.Proofs.YtabegjpledammaaGreatDoor
namespace Go.Proofs.YtabegjpledammaaGreatDoor
open Go.RowKit
set_option linter.unusedVariables false
set_option linter.unusedSimpArgs false
namespace Effect

/-- A region, swapped. -/
def turnI (x : Int) (f t : List Int) : Int := if 0 ≤ Lib.idxOf f x ∧ Lib.idxOf f x < t.length then nget t (Lib.idxOf f x).toNat else x
theorem idx_hit {f : List Int} {x : Int} {j : Nat} (hj : j < f.length) (hx : nget f j = x) (hn : ∀ i, i < j → nget f i ≠ x) : Lib.idxOf f x = j := by
  have := Lib.idxOf_hit f f.length j x hj (Nat.le_refl _) hx hn
  rw [List.take_length] at this
  exact this
theorem idx_miss {f : List Int} {x : Int} (hn : ∀ i, i < f.length → nget f i ≠ x) : Lib.idxOf f x = -1 := by
  have := Lib.idxOf_miss f f.length x hn
  rw [List.take_length] at this
  exact this
theorem idx_range (f : List Int) (x : Int) : Lib.idxOf f x = -1 ∨ ∃ j : Nat, Lib.idxOf f x = j ∧ j < f.length ∧ nget f j = x := by
  have key : ∀ j, j ≤ f.length → (∀ i, i < j → nget f i ≠ x) ∨ ∃ k : Nat, Lib.idxOf f x = k ∧ k < f.length ∧ nget f k = x := fun j => by
    induction j with
    | zero => intro _; exact .inl fun i hi => absurd hi (Nat.not_lt_zero _)
    | succ j ih =>
      intro hj
      rcases ih (by omega) with h | h
      · by_cases e : nget f j = x
        · exact .inr ⟨j, idx_hit (by omega) e h, by omega, e⟩
        · exact .inl fun i hi => by
            by_cases e2 : i = j
            · rw [e2]; exact e
            · exact h i (by omega)
      · exact .inr h
  rcases key f.length (Nat.le_refl _) with h | h
  · exact .inl (idx_miss h)
  · exact .inr h
theorem turn_ok {x : Int} {f t : List Int} {lo hi : Int} (hx : lo ≤ x ∧ x ≤ hi) (ht : ∀ y ∈ t, lo ≤ y ∧ y ≤ hi) : lo ≤ turnI x f t ∧ turnI x f t ≤ hi := by
  unfold turnI
  split
  · rename_i h
    exact ht _ (nget_mem (by omega))
  · exact hx
end Effect
end Go.Proofs.YtabegjpledammaaGreatDoor
