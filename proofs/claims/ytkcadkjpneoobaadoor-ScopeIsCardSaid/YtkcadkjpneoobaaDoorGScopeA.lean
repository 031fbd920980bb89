/-Names that are bound: rows that grow, and what stays of them. Names that are bound: the small methods. Names that are bound in a kid. The way through all nodes, with the names that are bound there: as a function, and what is asked of what looks at each. -/
import Derived.Test.YtkcadkjpneoobaaDoorGTermE
import Derived.Test.YtkcadkjpneoobaaDoorGWordsD
import Derived.Laws.OwnMore
import Derived.Laws.Append
import Derived.Maps.AppendAt
import Derived.OwnWalk
import Derived.Lib.Hide
namespace Go.Proofs.YtkcadkjpneoobaaDoor
open Go.RowKit
set_option linter.unusedVariables false
set_option linter.unusedSimpArgs false
namespace Scope
open Term (Tm Hd TmIs Kids ret_bool ret_i64)
open Words (str_no str_yes sel StrsAt)

def lenV : Value → Nat
  | .slice _ m _ => m
  | _ => 0
/-- A row of texts that is owned, from block B on. -/
def Nm (w : World) (B : Nat) (v : Value) (ns : List ByteArray) : Prop := w.ownsRow B 9 1 v ns.length (ns.map Value.string)
/-- What stays: all blocks but those of Z; of v's row its elements. -/
structure Keep (Z : Nat → Prop) (v : Value) (w w' : World) : Prop where
  os : w'.os = w.os
  tape : w'.tape = w.tape
  output : w'.output = w.output
  size : w.heap.size ≤ w'.heap.size
  block : ∀ b, b < w.heap.size → ¬ Z b → v.ownBlock ≠ some b → w'.heap[b]? = w.heap[b]?
  row : ∀ b cur ty, v.ownBlock = some b → ¬ Z b → w.heap[b]? = some (.cells cur ty (0, 0)) → ∃ cur', w'.heap[b]? = some (.cells cur' ty (0, 0)) ∧ cur'.size = cur.size ∧ cur'.toList.take (lenV v) = cur.toList.take (lenV v)
theorem Keep.of_below {Z : Nat → Prop} {v : Value} {w w' : World} (h : Below w.heap.size w w') : Keep Z v w w' :=
  ⟨h.os, h.tape, h.output, h.size, fun b hb _ _ => h.block b hb, fun b cur ty _ _ hc => ⟨cur, (h.block b (lt_of_block hc)).trans hc, rfl, rfl⟩⟩
theorem Keep.refl (Z : Nat → Prop) (v : Value) (w : World) : Keep Z v w w := Keep.of_below (Below.refl _ _)
theorem Keep.trans {Z Z1 : Nat → Prop} {v v1 : Value} {w w1 w2 : World} (h : Keep Z v w w1) (k : Keep Z1 v1 w1 w2) (hZ : ∀ b, b < w.heap.size → Z1 b → Z b)
    (hv : (v1.ownBlock = v.ownBlock ∧ lenV v ≤ lenV v1) ∨ (∀ b, v1.ownBlock = some b → w.heap.size ≤ b)) : Keep Z v w w2 := by
  refine ⟨k.os.trans h.os, k.tape.trans h.tape, k.output.trans h.output, Nat.le_trans h.size k.size, fun b hb hz hn => ?_, fun b cur ty hb hz hc => ?_⟩
  · refine (k.block b (Nat.lt_of_lt_of_le hb h.size) (fun e => hz (hZ b hb e)) ?_).trans (h.block b hb hz hn)
    rcases hv with hv | hv
    · rw [hv.1]; exact hn
    · intro e; have := hv b e; omega
  · obtain ⟨c1, h1, h2, h3⟩ := h.row b cur ty hb hz hc
    have hl := lt_of_block hc
    have hz1 : ¬ Z1 b := fun e => hz (hZ b hl e)
    rcases hv with hv | hv
    · obtain ⟨c2, k1, k2, k3⟩ := k.row b c1 ty (hv.1.trans hb) hz1 h1
      refine ⟨c2, k1, k2.trans h2, ?_⟩
      have e : ∀ l : List Value, l.take (lenV v) = (l.take (lenV v1)).take (lenV v) := fun l => by rw [List.take_take, Nat.min_eq_left hv.2]
      rw [e c2.toList, k3, ← e, h3]
    · refine ⟨c1, (k.block b (Nat.lt_of_lt_of_le hl h.size) hz1 ?_).trans h1, h2, h3⟩
      intro e; have := hv b e; omega
theorem Keep.weak {Z Z' : Nat → Prop} {v : Value} {w w' : World} (h : Keep Z v w w') (hZ : ∀ b, Z b → Z' b) : Keep Z' v w w' :=
  ⟨h.os, h.tape, h.output, h.size, fun b hb hz hn => h.block b hb (fun e => hz (hZ b e)) hn, fun b cur ty hb hz hc => h.row b cur ty hb (fun e => hz (hZ b e)) hc⟩
/-- A relation that speaks of no row is one that speaks of any. -/
theorem Keep.any {Z : Nat → Prop} {v : Value} {w w' : World} (h : Keep Z (.slice none 0 0) w w') : Keep Z v w w' :=
  ⟨h.os, h.tape, h.output, h.size, fun b hb hz _ => h.block b hb hz (by simp [Value.ownBlock]), fun b cur ty hb hz hc => ⟨cur, (h.block b (lt_of_block hc) hz (by simp [Value.ownBlock])).trans hc, rfl, rfl⟩⟩
theorem Keep.cell {Z : Nat → Prop} {v : Value} {w w' : World} (h : Keep Z v w w') {a : Addr} (ha : a.block < w.heap.size) (hz : ¬ Z a.block) (hn : v.ownBlock ≠ some a.block) : w'.cell? a = w.cell? a :=
  World.cell?_of_block (h.block a.block ha hz hn)
theorem Nm.nil (w : World) (B : Nat) : Nm w B (.slice none 0 0) [] := World.ownsRow_nil _ _ _ _
theorem Nm.len {w : World} {B : Nat} {v : Value} {ns : List ByteArray} (h : Nm w B v ns) : lenV v = ns.length := by
  rcases h.2 with ⟨rfl, h0⟩ | ⟨g, cap, cur, rfl, _⟩
  · exact h0.symm
  · rfl
theorem Nm.slice {w : World} {B : Nat} {v : Value} {ns : List ByteArray} (h : Nm w B v ns) : ∃ p d, v = .slice p ns.length d ∧ ns.length ≤ maxLen := by
  rcases h.2 with ⟨rfl, h0⟩ | ⟨g, cap, cur, rfl, _, _, h1, h2, _⟩
  · exact ⟨none, 0, by rw [h0], by rw [h0]; unfold maxLen; omega⟩
  · exact ⟨_, _, rfl, Nat.le_trans h1 h2⟩
theorem Nm.high {w : World} {B : Nat} {v : Value} {ns : List ByteArray} (h : Nm w B v ns) {b : Nat} (hb : v.ownBlock = some b) : B ≤ b ∧ b < w.heap.size := h.lt b hb
theorem Nm.keep {Z : Nat → Prop} {w w' : World} {B : Nat} {v : Value} {ns : List ByteArray} (h : Nm w B v ns) (k : Keep Z v w w') (hz : ∀ b, v.ownBlock = some b → ¬ Z b) : Nm w' B v ns := by
  refine ⟨h.1, ?_⟩
  have hl := h.len
  rcases h.2 with h0 | ⟨g, cap, cur, rfl, h1, h2, h3, h4, h5, h6⟩
  · exact .inl h0
  · obtain ⟨c', k1, k2, k3⟩ := k.row g cur _ rfl (hz g rfl) h2
    refine .inr ⟨g, cap, c', rfl, h1, k1, h3, h4, k2.trans h5, ?_⟩
    rw [hl] at k3
    rw [Nat.mul_one] at h6 ⊢
    rw [k3, h6]
theorem Nm.far {Z : Nat → Prop} {w w' : World} {B : Nat} {u v : Value} {ns : List ByteArray} (h : Nm w B v ns) (k : Keep Z u w w') (hz : ∀ b, v.ownBlock = some b → ¬ Z b ∧ u.ownBlock ≠ some b) : Nm w' B v ns := by
  refine ⟨h.1, ?_⟩
  rcases h.2 with h0 | ⟨g, cap, cur, rfl, h1, h2, h3⟩
  · exact .inl h0
  · exact .inr ⟨g, cap, cur, rfl, h1, (k.block g (lt_of_block h2) (hz g rfl).1 (hz g rfl).2).trans h2, h3⟩
theorem Nm.strs {w : World} {B : Nat} {p : Option Addr} {l d : Nat} {ns : List ByteArray} (h : Nm w B (.slice p l d) ns) : l = ns.length ∧ StrsAt w p ns := by
  refine ⟨h.len, ?_⟩
  rcases h.2 with ⟨e, h0⟩ | ⟨g, cap, cur, e, h1, h2, h3, h4, h5, h6⟩
  · left
    exact List.eq_nil_of_length_eq_zero h0
  · right
    injection e with e1 e2 e3
    refine ⟨g, 0, e1, fun i hi => ?_⟩
    rw [Nat.zero_add]
    show w.cell? ⟨g, i, none⟩ = _
    have : cur.toList[i]? = some (Value.string (sel ns i)) := by
      have h7 : (cur.toList.take (ns.length * 1))[i]? = (ns.map Value.string)[i]? := by rw [h6]
      rw [List.getElem?_take, if_pos (by omega)] at h7
      rw [h7, List.getElem?_map, List.getElem?_eq_getElem hi]
      unfold sel
      rw [List.getD_eq_getElem?_getD, List.getElem?_eq_getElem hi]
      rfl
    rw [cell_of_row w g i cur _ (0, 0) h2]
    simpa using this

section
variable {P : Program} (w : World)
theorem run_append_tu (t u ty e e' : TypeId) (i : TypeInfo) (ht : P.underlying t = some (.slice e)) (hu : P.underlying u = some (.slice e')) (hi : P.info? e = some i) (p : Option Addr) (l d : Nat) (y : Value) :
    (Builtin.append_ #[t, u] ty #[.slice p l d, y]).run P w = (Builtin.append_ #[t, t] ty #[.slice p l d, y]).run P w := by
  simp [Builtin.append_, run_underlying ht, run_underlying hu, sizeOf, typeInfo, hi]
theorem run_append_keep (B : Nat) (t u ty e e' : TypeId) (i : TypeInfo) (z : Value) (bytes : Nat) (ht : P.underlying t = some (.slice e)) (hu : P.underlying u = some (.slice e')) (hi : P.info? e = some i) (hz : i.zero = some z)
    (hsize : i.size = 1) (hby : i.bytes = bytes) (hzs : z.cells.size = 1)
    (v : Value) (n : Nat) (xs : List Value) (hown : w.ownsRow B e 1 v n xs)
    (a : Addr) (m c : Nat) (news : List Value) (hl : news.length = m) (hnews : ∀ j u, news[j]? = some u → w.cell? (a.add j) = some u) (h1 : ∀ u ∈ news, u.oneCell' = true)
    (h63 : n + m ≤ maxLen) (hbytes : (n + m) * bytes ≤ 140737488355328) (hbase : B ≤ w.heap.size) (hm : 0 < m) :
    ∃ v' w', (Builtin.append_ #[t, u] ty #[v, .slice (some a) m c]).run P w = .ok v' w' ∧ w'.ownsRow B e 1 v' (n + m) (xs ++ news) ∧ Keep (fun _ => False) v w w' ∧ (v'.ownBlock = v.ownBlock ∨ v'.ownBlock = some w.heap.size) := by
  obtain ⟨v', w', hr, hown', hgr, _, hat⟩ := run_append_own_at (P := P) w B t ty e i z 1 bytes ht hi hz hsize hby hzs (by omega) v n xs hown a m c news (by omega) hnews h1 h63 hbytes hbase
  have htu : (Builtin.append_ #[t, u] ty #[v, .slice (some a) m c]).run P w = (Builtin.append_ #[t, t] ty #[v, .slice (some a) m c]).run P w := by
    rcases hown.2 with ⟨rfl, _⟩ | ⟨g, cap, cur0, rfl, _⟩
    · exact run_append_tu w t u ty e e' i ht hu hi _ _ _ _
    · exact run_append_tu w t u ty e e' i ht hu hi _ _ _ _
  refine ⟨v', w', htu.trans hr, hown', ⟨hgr.os, hgr.tape, hgr.output, hgr.size, fun b hb _ hn => hgr.block b hb (fun e => hn e.symm), fun b cur ty' hb _ hc => ?_⟩, hat⟩
  rcases hown.2 with ⟨rfl, _⟩ | ⟨g, cap, cur0, rfl, hbg, hg, hnc, hcm, hcs, htake⟩
  · simp [Value.ownBlock] at hb
  · obtain rfl : g = b := by simpa [Value.ownBlock] using hb
    have hce : cur0 = cur ∧ e = ty' := by
      rw [hg] at hc
      injection hc with hc
      injection hc with h1 h2 h3
      exact ⟨h1, h2⟩
    obtain ⟨rfl, rfl⟩ := hce
    by_cases hroom : n + m ≤ cap
    · have hfit : n * i.size + news.length ≤ cur0.size := by rw [hl, hcs, hsize]; omega
      have hr2 := run_append_room (P := P) w t ty e i ht hi g n cap cur0 hg a m c news (by rw [hsize]; omega) hnews h1 hroom hfit
      rw [hr] at hr2
      injection hr2 with e1 e2
      subst e2
      refine ⟨_, setRow_heap w g cur0 _ e _ hg, ?_, ?_⟩
      · rw [hsize] at hfit ⊢
        simp only [List.size_toArray, List.length_append, List.length_take, List.length_drop, Array.length_toList]
        omega
      · show List.take n _ = List.take n _
        rw [hsize, Nat.mul_one, List.append_assoc]
        have hcl : n ≤ cur0.toList.length := by rw [Array.length_toList, hcs]; omega
        rw [List.take_append_of_le_length (by rw [List.length_take]; omega), List.take_take, Nat.min_self]
    · have holds : ∀ j u, xs[j]? = some u → w.cell? ((⟨g, 0, none⟩ : Addr).add j) = some u := hown.cells (g := g) rfl
      have hr2 := run_append_grow (P := P) w t ty e i z ht hi hz ⟨g, 0, none⟩ n cap xs (by rw [hsize]; exact hown.1) holds a m c news (by rw [hsize]; omega) hnews (by omega) (by unfold maxLen at h63; omega) (by rw [hby]; exact growslice_fits (by omega) hbytes)
      rw [hr] at hr2
      injection hr2 with e1 e2
      subst e2
      exact ⟨cur0, (heap_alloc_old w.drew _ (lt_of_block hg)).trans hg, rfl, rfl⟩
theorem wpList_append_keep {ops : Array Oper} {rest : List Oper} {o : Oper} {a : Act} {Q : Exit → Act → World → Prop} (hgd : o.guard = none) (s x : Operand) (t u : TypeId)
    (ho : o.op = .call { callee := .builtin .append, args := #[s, x], argTypes := #[t, u] })
    (B : Nat) (e e' : TypeId) (i : TypeInfo) (z : Value) (bytes : Nat) (ht : P.underlying t = some (.slice e)) (hu : P.underlying u = some (.slice e')) (hi : P.info? e = some i) (hz : i.zero = some z)
    (hsize : i.size = 1) (hby : i.bytes = bytes) (hzs : z.cells.size = 1)
    (v : Value) (n : Nat) (xs : List Value) (hs : a.eval s = v) (hown : w.ownsRow B e 1 v n xs)
    (ad : Addr) (m c : Nat) (news : List Value) (hx : a.eval x = .slice (some ad) m c) (hl : news.length = m) (hnews : ∀ j u, news[j]? = some u → w.cell? (ad.add j) = some u) (h1 : ∀ u ∈ news, u.oneCell' = true)
    (h63 : n + m ≤ maxLen) (hbytes : (n + m) * bytes ≤ 140737488355328) (hbase : B ≤ w.heap.size) (hm : 0 < m)
    (h : ∀ v' w', w'.ownsRow B e 1 v' (n + m) (xs ++ news) → Keep (fun _ => False) v w w' → (v'.ownBlock = v.ownBlock ∨ v'.ownBlock = some w.heap.size) → wpList P ops Q rest (a.put o.dst v') w') : wpList P ops Q (o :: rest) a w := by
  refine wpList_plain hgd fun K hK => ?_
  obtain ⟨v', w', hr, h2, h3, h4⟩ := run_append_keep (P := P) w B t u o.type e e' i z bytes ht hu hi hz hsize hby hzs v n xs hown ad m c news hl hnews h1 h63 hbytes hbase hm
  unfold Oper.wp execOp
  simp only [ho, resolve, invoke, builtin, Sem.run_bind, Sem.run_pure, Result.andThen_ok, List.map_toArray, List.map_cons, List.map_nil, hs, hx, hr]
  exact hK _ _ (h v' w' h2 h3 h4)
end
end Scope
end Go.Proofs.YtkcadkjpneoobaaDoor
namespace Go.Proofs.YtkcadkjpneoobaaDoor
open Go.RowKit
set_option linter.unusedVariables false
set_option linter.unusedSimpArgs false
namespace Scope
open Term (Tm Hd TmIs Kids ret_bool ret_i64)
open Words (str_no str_yes sel sel_mem StrsAt)

def hasB (ss : List ByteArray) (x : ByteArray) : Bool := ss.any fun y => decide (y = x)
/-- An index of a text in a row, or -1. -/
def IsAt (ss : List ByteArray) (x : ByteArray) (e : Ending) : Prop := ∃ r : Int, e = .returned (.int .i64 r) ∧ (hasB ss x = true → 0 ≤ r) ∧ (hasB ss x = false → r < 0)
theorem in_true {ss : List ByteArray} {x : ByteArray} {k : Nat} (hk : k < ss.length) (h : sel ss k = x) : hasB ss x = true := List.any_eq_true.2 ⟨_, sel_mem hk, decide_eq_true h⟩
theorem in_false {ss : List ByteArray} {x : ByteArray} (h : ∀ j, j < ss.length → sel ss j ≠ x) : hasB ss x = false := by
  unfold hasB
  rw [List.any_eq_false]
  intro y hy
  obtain ⟨j, hj, e⟩ := List.getElem_of_mem hy
  have h1 := h j hj
  have h2 : sel ss j = y := by unfold sel; rw [List.getD_eq_getElem?_getD, List.getElem?_eq_getElem hj, e]; rfl
  rw [h2] at h1
  simpa using h1
theorem index_strs (p : Option Addr) (n d : Nat) (ss : List ByteArray) (x : ByteArray) (w : World) (hn : ss.length = n) (hm : n ≤ maxLen) (hp : StrsAt w p ss) :
    Calls Tryd.prog 50 #[.slice p n d, .string x] w fun e w' => IsAt ss x e ∧ w = w' := by
  unfold maxLen at hm
  have HP := Lib.hid hp; clear hp
  have HL := Lib.hid hn; clear hn
  go_enter Tryd.func50, Tryd.ntmps50
  go_wp2
  go_loop [5, 8] (fun _ i => ∃ k : Nat, k ≤ n ∧ i = .int .i64 k ∧ Hid (∀ j, j < k → sel ss j ≠ x)) (fun _ i => n - (intOf i).toNat)
  case atStart => exact ⟨0, by omega, rfl, Lib.hid (fun j hj => by omega)⟩
  case round =>
    obtain ⟨k, hk, rfl, HA⟩ := hrel
    by_cases hlt : k < n
    · have hk' : k < ss.length := by rw [HL.out]; exact hlt
      obtain ⟨b, o, rfl, hcs⟩ := HP.out.get k hk'
      have hck := hcs k hk'
      have HK := Lib.hid hk'
      clear hcs hk'
      generalize hy : sel ss k = y at *
      have HY := Lib.hid hy
      clear hy
      by_cases hyx : y = x
      · have n1 : (x.toList == y.toList) = true := str_yes hyx.symm
        have HYX := Lib.hid hyx
        clear hyx
        go_wp2
        go_ret
        have hin := in_true HK.out (HY.out.trans HYX.out)
        refine ⟨⟨k, rfl, fun _ => by omega, fun h => ?_⟩, rfl⟩
        rw [hin] at h
        cases h
      · have n1 : (x.toList == y.toList) = false := str_no fun e => hyx e.symm
        have HYX := Lib.hid hyx
        clear hyx
        go_wp2
        go_round
        case rel =>
          refine ⟨k + 1, by omega, by go_num, Lib.hid (fun j hj => ?_)⟩
          by_cases hjk : j = k
          · rw [hjk, HY.out]; exact HYX.out
          · exact HA.out j (by omega)
        case measure => simp [intOf]; omega
    · obtain rfl : k = n := by omega
      go_wp2
      go_ret
      have hin := in_false (ss := ss) (x := x) (fun j hj => HA.out j (by rw [← HL.out]; exact hj))
      refine ⟨⟨-1, rfl, fun h => ?_, fun h => by omega⟩, rfl⟩
      rw [hin] at h
      cases h
theorem contains_strs (p : Option Addr) (n d : Nat) (ss : List ByteArray) (x : ByteArray) (w : World) (hn : ss.length = n) (hm : n ≤ maxLen) (hp : StrsAt w p ss) :
    Calls Tryd.prog 38 #[.slice p n d, .string x] w fun e w' => e = .returned (.bool (hasB ss x)) ∧ w = w' := by
  have HB := Lib.hid hp; clear hp
  have HL := Lib.hid hn; clear hn
  go_enter Tryd.func38, Tryd.ntmps38
  go_wp2_with (fail)
  refine (index_strs p n d ss x w HL.out hm HB.out).mono ?_
  rintro e w' ⟨⟨r, rfl, h1, h2⟩, rfl⟩
  have H1 := Lib.hid h1; have H2 := Lib.hid h2; clear h1 h2
  go_wp2
  go_ret
  refine ⟨ret_bool ?_, rfl⟩
  have h1 := H1.out; have h2 := H2.out
  cases hi : hasB ss x
  · have := h2 hi; simp; omega
  · have := h1 hi; simp; omega


theorem has_walk (w : World) (B : Nat) (v : Value) (ns : List ByteArray) (x : ByteArray) (h : Nm w B v ns) :
    Calls Tryd.prog 23 #[v, .string x] w fun e w' => e = .returned (.bool (hasB ns x)) ∧ w = w' := by
  obtain ⟨p, d, rfl, hm⟩ := h.slice
  have hs := h.strs.2
  have HC := Lib.hid (contains_strs p ns.length d ns x w rfl hm hs)
  clear h hs
  go_enter Tryd.func23, Tryd.ntmps23
  go_wp2_with (fail)
  refine HC.out.mono ?_
  rintro e w' ⟨rfl, rfl⟩
  go_wp2_with (fail)
  go_ret
  exact ⟨rfl, rfl⟩
theorem infoS : (Tryd.prog.info? 9).map (fun i => (i.zero, i.size, i.bytes)) = some (some (.string ⟨#[]⟩), 1, 16) := by kernel_rfl
/-- How with ends. -/
def WithEnd (B : Nat) (v : Value) (ns : List ByteArray) (w : World) (e : Ending) (w' : World) : Prop :=
  ∃ v', e = .returned v' ∧ Nm w' B v' ns ∧ Keep (fun _ => False) v w w' ∧ (v'.ownBlock = v.ownBlock ∧ lenV v ≤ lenV v' ∨ ∀ b, v'.ownBlock = some b → w.heap.size ≤ b)
theorem WithEnd.later {B : Nat} {v : Value} {ns : List ByteArray} {w W : World} {e : Ending} {w' : World} (hb : Below w.heap.size w W) (h : WithEnd B v ns W e w') : WithEnd B v ns w e w' := by
  obtain ⟨v', he, h1, h2, h3⟩ := h
  refine ⟨v', he, h1, (Keep.of_below hb).trans h2 (fun _ _ h => h) (.inl ⟨rfl, Nat.le_refl _⟩), h3.imp id fun h b hv => Nat.le_trans hb.size (h b hv)⟩
theorem own_same {u v v' : Value} {w : World} (h : v'.ownBlock = v.ownBlock ∨ v'.ownBlock = some w.heap.size) (hl : lenV v ≤ lenV v') : (v'.ownBlock = v.ownBlock ∧ lenV v ≤ lenV v') ∨ ∀ b, v'.ownBlock = some b → w.heap.size ≤ b := by
  rcases h with h | h
  · exact .inl ⟨h, hl⟩
  · right
    intro b hb
    rw [h] at hb
    injection hb with hb
    omega
set_option maxHeartbeats 3200000 in
theorem with_walk (w : World) (B : Nat) (v : Value) (ns : List ByteArray) (b o m d : Nat) (ms : List ByteArray) (h : Nm w B v ns) (hm : ms.length = m) (hp : ∀ j u, (ms.map Value.string)[j]? = some u → w.cell? ⟨b, o + j, none⟩ = some u) (h0 : 0 < m) (hz : ns.length + m ≤ 100000) (hB : B ≤ w.heap.size) :
    Calls Tryd.prog 24 #[v, .slice (some ⟨b, o, none⟩) m d] w (WithEnd B v (ns ++ ms) w) := by
  obtain ⟨i0, hi, hz0, hz1, hz2⟩ := info_parts infoS
  have hl := h.len
  have hnm : ∀ v' w' , w'.ownsRow B 9 1 v' (ns.length + m) (ns.map Value.string ++ ms.map Value.string) → Nm w' B v' (ns ++ ms) := by
    intro v' w' h
    unfold Nm
    rw [List.length_append, hm, List.map_append]
    exact h
  have hcell : ∀ j u, (ms.map Value.string)[j]? = some u → w.cell? ((⟨b, o, none⟩ : Addr).add j) = some u := by
    intro j u hj
    have hadd : (⟨b, o, none⟩ : Addr).add j = ⟨b, o + j, none⟩ := by unfold Addr.add; split <;> simp_all
    rw [hadd]
    exact hp j u hj
  have HI := Lib.hid hi; have HZ0 := Lib.hid hz0; have HZ1 := Lib.hid hz1; have HZ2 := Lib.hid hz2
  have H := Lib.hid h; have HL := Lib.hid hl; have HM := Lib.hid hm; have HC := Lib.hid hcell; have HNM := Lib.hid hnm
  clear hi hz0 hz1 hz2 h hl hm hp hcell hnm
  go_enter Tryd.func24, Tryd.ntmps24
  go_wp2_with (at_builtin; go_loud (refine wpList_append_keep w rfl (.tmp 5) (.tmp 6) 50 39 rfl B 9 9 i0 (.string ⟨#[]⟩) 16 Tryd.underlying50 Tryd.underlying39 HI.out HZ0.out HZ1.out HZ2.out rfl v ns.length _ rfl H.out ⟨b, o, none⟩ m d (ms.map Value.string) rfl (by rw [List.length_map]; exact HM.out) HC.out (by intro u hu; obtain ⟨y, _, rfl⟩ := List.mem_map.1 hu; rfl) (by unfold maxLen; omega) (by omega) hB h0 ?_); intro v' w' h1 h2 h3; have H1 := Lib.hid h1; have H2 := Lib.hid h2; have H3 := Lib.hid h3; clear h1 h2 h3)
  go_ret
  have hn := HNM.out _ _ H1.out
  refine ⟨v', rfl, hn, H2.out, own_same (u := v) H3.out ?_⟩
  rw [hn.len, HL.out, List.length_append]
  omega
/-- The names that are bound in a kid. -/
def boundP (ns : List ByteArray) (h : Hd) (kid : Nat) : List ByteArray :=
  if h.k = 11 ∨ (h.k = 16 ∧ kid = 1) then ns ++ [h.arg]
  else if h.k = 13 ∧ kid = 0 then ns ++ [h.name, h.arg]
  else if h.k = 13 ∨ (h.k = 12 ∧ kid = 1) then ns ++ [h.name] else ns
theorem boundP_len (ns : List ByteArray) (h : Hd) (kid : Nat) : (boundP ns h kid).length ≤ ns.length + 2 := by
  unfold boundP
  split
  · simp
  · split
    · simp
    · split <;> simp
end Scope
end Go.Proofs.YtkcadkjpneoobaaDoor
namespace Go.Proofs.YtkcadkjpneoobaaDoor
open Go.RowKit
set_option linter.unusedVariables false
set_option linter.unusedSimpArgs false
namespace Scope
open Term (Tm Hd TmIs Kids ret_bool ret_i64)
open Words (str_no str_yes sel StrsAt)

theorem lit1 (w : World) (t : TypeId) (x : ByteArray) : ∀ j u, (([x] : List ByteArray).map Value.string)[j]? = some u → (w.alloc (.cells #[.string x] t)).cell? ⟨w.heap.size, 0 + j, none⟩ = some u := by
  intro j u hj
  rw [Nat.zero_add, World.cell?_alloc_mark]
  simpa using hj
theorem lit2 (w : World) (t : TypeId) (x y : ByteArray) : ∀ j u, (([x, y] : List ByteArray).map Value.string)[j]? = some u → (w.alloc (.cells #[.string x, .string y] t)).cell? ⟨w.heap.size, 0 + j, none⟩ = some u := by
  intro j u hj
  rw [Nat.zero_add, World.cell?_alloc_mark]
  simpa using hj
/-- with one name, that was just laid. -/
theorem with_one (w : World) (B : Nat) (v : Value) (ns : List ByteArray) (x : ByteArray) (t : TypeId) (h : Nm w B v ns) (hz : ns.length ≤ 99000) (hB : B ≤ w.heap.size) :
    Calls Tryd.prog 24 #[v, .slice (some ⟨w.heap.size, 0, none⟩) 1 1] (w.alloc (.cells #[.string x] t)) (WithEnd B v (ns ++ [x]) w) := by
  have hb : Below w.heap.size w (w.alloc (.cells #[.string x] t)) := (Below.refl _ _).alloc (Nat.le_refl _) _
  exact (with_walk _ B v ns w.heap.size 0 1 1 [x] (h.keep (Keep.of_below (Z := fun _ => False) hb) (fun _ _ h => h)) rfl (lit1 w t x) (by omega) (by omega) (Nat.le_trans hB hb.size)).mono fun e w' he => he.later hb
theorem with_two (w : World) (B : Nat) (v : Value) (ns : List ByteArray) (x y : ByteArray) (t : TypeId) (h : Nm w B v ns) (hz : ns.length ≤ 99000) (hB : B ≤ w.heap.size) :
    Calls Tryd.prog 24 #[v, .slice (some ⟨w.heap.size, 0, none⟩) 2 2] (w.alloc (.cells #[.string x, .string y] t)) (WithEnd B v (ns ++ [x, y]) w) := by
  have hb : Below w.heap.size w (w.alloc (.cells #[.string x, .string y] t)) := (Below.refl _ _).alloc (Nat.le_refl _) _
  exact (with_walk _ B v ns w.heap.size 0 2 2 [x, y] (h.keep (Keep.of_below (Z := fun _ => False) hb) (fun _ _ h => h)) rfl (lit2 w t x y) (by omega) (by omega) (Nat.le_trans hB hb.size)).mono fun e w' he => he.later hb
set_option maxRecDepth 10000 in
set_option maxHeartbeats 6400000 in
theorem within_walk (w : World) (B : Nat) (v : Value) (ns : List ByteArray) (k op pl nn : Int) (nm ar ex : ByteArray) (q : Option Addr) (l c kid : Nat) (h : Nm w B v ns) (hz : ns.length ≤ 99000) (hB : B ≤ w.heap.size) :
    Calls Tryd.prog 39 #[v, .agg #[.int .u8 k, .int .u8 op, .int .i64 pl, .int .i64 nn, .string nm, .string ar, .string ex, .slice q l c], .int .i64 (kid : Int)] w (WithEnd B v (boundP ns ⟨k, op, pl, nn, nm, ar, ex⟩ kid) w) := by
  have hb : Below w.heap.size w (w.alloc (.cells #[.int .u8 k, .int .u8 op, .int .i64 pl, .int .i64 nn, .string nm, .string ar, .string ex, .slice q l c] 27)) := (Below.refl _ _).alloc (Nat.le_refl _) _
  have hN := h.keep (Keep.of_below (Z := fun _ => False) hb) (fun _ _ h => h)
  have hsz : (w.alloc (.cells #[.int .u8 k, .int .u8 op, .int .i64 pl, .int .i64 nn, .string nm, .string ar, .string ex, .slice q l c] 27)).heap.size = w.heap.size + 1 := by simp
  have h1 := fun x t => (with_one (w.alloc (.cells #[.int .u8 k, .int .u8 op, .int .i64 pl, .int .i64 nn, .string nm, .string ar, .string ex, .slice q l c] 27)) B v ns x t hN hz (Nat.le_trans hB hb.size)).mono fun e w' he => he.later hb
  have h2 := fun x y t => (with_two (w.alloc (.cells #[.int .u8 k, .int .u8 op, .int .i64 pl, .int .i64 nn, .string nm, .string ar, .string ex, .slice q l c] 27)) B v ns x y t hN hz (Nat.le_trans hB hb.size)).mono fun e w' he => he.later hb
  rw [hsz] at h1 h2
  clear hsz
  have h0 : WithEnd B v ns w (.returned v) (w.alloc (.cells #[.int .u8 k, .int .u8 op, .int .i64 pl, .int .i64 nn, .string nm, .string ar, .string ex, .slice q l c] 27)) := ⟨v, rfl, hN, Keep.of_below hb, .inl ⟨rfl, Nat.le_refl _⟩⟩
  have H0 := Lib.hid h0; have H1 := Lib.hid h1; have H2 := Lib.hid h2
  clear hb hN h0 h1 h2 h
  by_cases k11 : k = 11
  · have hr : boundP ns ⟨k, op, pl, nn, nm, ar, ex⟩ kid = ns ++ [ar] := if_pos (.inl k11)
    rw [hr]
    subst k11
    clear hr
    go_enter Tryd.func39, Tryd.ntmps39
    go_wp2_with (fail)
    refine (H1.out _ _).mono ?_
    rintro e w1 ⟨v', rfl, h⟩
    have H := Lib.hid h; clear h
    go_wp2_with (fail)
    go_ret
    exact ⟨v', rfl, H.out⟩
  have n11 : (k == 11) = false := by simpa using k11
  by_cases k16 : k = 16
  · subst k16
    by_cases hk : kid = 1
    · have hr : boundP ns ⟨16, op, pl, nn, nm, ar, ex⟩ kid = ns ++ [ar] := if_pos (.inr ⟨rfl, hk⟩)
      rw [hr]
      subst hk
      clear hr
      go_enter Tryd.func39, Tryd.ntmps39
      go_wp2_with (fail)
      refine (H1.out _ _).mono ?_
      rintro e w1 ⟨v', rfl, h⟩
      have H := Lib.hid h; clear h
      go_wp2_with (fail)
      go_ret
      exact ⟨v', rfl, H.out⟩
    · have hr : boundP ns ⟨16, op, pl, nn, nm, ar, ex⟩ kid = ns := by
        unfold boundP
        rw [if_neg (by simp; exact hk), if_neg (by simp), if_neg (by simp)]
      rw [hr]
      have hki : ¬ (kid : Int) = 1 := by omega
      have hkb : ((kid : Int) == 1) = false := by simpa using hki
      clear hr
      go_enter Tryd.func39, Tryd.ntmps39
      go_wp2_with (fail)
      go_ret
      exact H0.out
  have n16 : (k == 16) = false := by simpa using k16
  by_cases k13 : k = 13
  · subst k13
    by_cases hk : kid = 0
    · have hr : boundP ns ⟨13, op, pl, nn, nm, ar, ex⟩ kid = ns ++ [nm, ar] := by
        unfold boundP
        rw [if_neg (by simp), if_pos ⟨rfl, hk⟩]
      rw [hr]
      subst hk
      clear hr
      go_enter Tryd.func39, Tryd.ntmps39
      go_wp2_with (fail)
      refine (H2.out _ _ _).mono ?_
      rintro e w1 ⟨v', rfl, h⟩
      have H := Lib.hid h; clear h
      go_wp2_with (fail)
      go_ret
      exact ⟨v', rfl, H.out⟩
    · have hr : boundP ns ⟨13, op, pl, nn, nm, ar, ex⟩ kid = ns ++ [nm] := by
        unfold boundP
        rw [if_neg (by simp), if_neg (by simp; exact hk), if_pos (.inl rfl)]
      rw [hr]
      have hki : ¬ (kid : Int) = 0 := by omega
      have hkb : ((kid : Int) == 0) = false := by simpa using hki
      clear hr
      go_enter Tryd.func39, Tryd.ntmps39
      go_wp2_with (fail)
      refine (H1.out _ _).mono ?_
      rintro e w1 ⟨v', rfl, h⟩
      have H := Lib.hid h; clear h
      go_wp2_with (fail)
      go_ret
      exact ⟨v', rfl, H.out⟩
  have n13 : (k == 13) = false := by simpa using k13
  by_cases k12 : k = 12
  · subst k12
    by_cases hk : kid = 1
    · have hr : boundP ns ⟨12, op, pl, nn, nm, ar, ex⟩ kid = ns ++ [nm] := by
        unfold boundP
        rw [if_neg (by simp), if_neg (by simp), if_pos (.inr ⟨rfl, hk⟩)]
      rw [hr]
      subst hk
      clear hr
      go_enter Tryd.func39, Tryd.ntmps39
      go_wp2_with (fail)
      refine (H1.out _ _).mono ?_
      rintro e w1 ⟨v', rfl, h⟩
      have H := Lib.hid h; clear h
      go_wp2_with (fail)
      go_ret
      exact ⟨v', rfl, H.out⟩
    · have hr : boundP ns ⟨12, op, pl, nn, nm, ar, ex⟩ kid = ns := by
        unfold boundP
        rw [if_neg (by simp), if_neg (by simp), if_neg (by simp; exact hk)]
      rw [hr]
      have hki : ¬ (kid : Int) = 1 := by omega
      have hkb : ((kid : Int) == 1) = false := by simpa using hki
      clear hr
      go_enter Tryd.func39, Tryd.ntmps39
      go_wp2_with (fail)
      go_ret
      exact H0.out
  have n12 : (k == 12) = false := by simpa using k12
  have hr : boundP ns ⟨k, op, pl, nn, nm, ar, ex⟩ kid = ns := by
    unfold boundP
    rw [if_neg (by simp [k11, k16]), if_neg (by simp [k13]), if_neg (by simp [k12, k13])]
  rw [hr]
  clear hr
  go_enter Tryd.func39, Tryd.ntmps39
  go_wp2_with (fail)
  go_ret
  exact H0.out
/-- The name that a term itself is, if it is free. -/
def freeP (ns : List ByteArray) (h : Hd) : ByteArray := if h.k ≠ 2 ∨ hasB ns h.name = true then ⟨#[]⟩ else h.name
set_option maxHeartbeats 3200000 in
theorem free_walk (w : World) (B : Nat) (v : Value) (ns : List ByteArray) (k op pl nn : Int) (nm ar ex : ByteArray) (q : Option Addr) (l c : Nat) (h : Nm w B v ns) :
    Calls Tryd.prog 27 #[v, .agg #[.int .u8 k, .int .u8 op, .int .i64 pl, .int .i64 nn, .string nm, .string ar, .string ex, .slice q l c]] w fun e w' => e = .returned (.string (freeP ns ⟨k, op, pl, nn, nm, ar, ex⟩)) ∧ Below w.heap.size w w' := by
  have hb : Below w.heap.size w (w.alloc (.cells #[.int .u8 k, .int .u8 op, .int .i64 pl, .int .i64 nn, .string nm, .string ar, .string ex, .slice q l c] 27)) := (Below.refl _ _).alloc (Nat.le_refl _) _
  have hN := h.keep (Keep.of_below (Z := fun _ => False) hb) (fun _ _ h => h)
  have hh := has_walk _ B v ns nm hN
  have HB := Lib.hid hb; have HX := Lib.hid hh
  clear hb hN hh h
  by_cases k2 : k = 2
  · subst k2
    cases hx : hasB ns nm
    · have hr : freeP ns ⟨2, op, pl, nn, nm, ar, ex⟩ = nm := by
        unfold freeP
        rw [if_neg (by simp [hx])]
      rw [hr]
      rw [hx] at HX
      clear hr hx
      go_enter Tryd.func27, Tryd.ntmps27
      go_wp2_with (fail)
      refine HX.out.mono ?_
      rintro e w' ⟨rfl, rfl⟩
      go_wp2_with (fail)
      go_ret
      exact ⟨rfl, HB.out⟩
    · have hr : freeP ns ⟨2, op, pl, nn, nm, ar, ex⟩ = ⟨#[]⟩ := by
        unfold freeP
        rw [if_pos (.inr hx)]
      rw [hr]
      rw [hx] at HX
      clear hr hx
      go_enter Tryd.func27, Tryd.ntmps27
      go_wp2_with (fail)
      refine HX.out.mono ?_
      rintro e w' ⟨rfl, rfl⟩
      go_wp2_with (fail)
      go_ret
      exact ⟨rfl, HB.out⟩
  · have hr : freeP ns ⟨k, op, pl, nn, nm, ar, ex⟩ = ⟨#[]⟩ := if_pos (.inl k2)
    rw [hr]
    have n2 : (k == 2) = false := by simpa using k2
    have n2' : (k != 2) = true := by simpa using k2
    clear hr
    go_enter Tryd.func27, Tryd.ntmps27
    go_wp2_with (fail)
    go_ret
    exact ⟨rfl, HB.out⟩
theorem exn_walk (w : World) (v : Value) (k op pl nn : Int) (nm ar ex : ByteArray) (q : Option Addr) (l c : Nat) :
    Calls Tryd.prog 32 #[v, .agg #[.int .u8 k, .int .u8 op, .int .i64 pl, .int .i64 nn, .string nm, .string ar, .string ex, .slice q l c]] w fun e w' => e = .returned (.string ex) ∧ Below w.heap.size w w' := by
  have hb : Below w.heap.size w (w.alloc (.cells #[.int .u8 k, .int .u8 op, .int .i64 pl, .int .i64 nn, .string nm, .string ar, .string ex, .slice q l c] 27)) := (Below.refl _ _).alloc (Nat.le_refl _) _
  have HB := Lib.hid hb
  clear hb
  go_enter Tryd.func32, Tryd.ntmps32
  go_wp2_with (fail)
  go_ret
  exact ⟨rfl, HB.out⟩
end Scope
end Go.Proofs.YtkcadkjpneoobaaDoor
namespace Go.Proofs.YtkcadkjpneoobaaDoor
open Go.RowKit
set_option linter.unusedVariables false
set_option linter.unusedSimpArgs false
namespace Scope
open Term (Tm Hd TmIs ret_bool ret_i64 tget wt wts wts_cons wts_nil drop_tget tcells)

mutual
/-- All nodes, as far as they hold, each ahead of its kids'. -/
def scT {σ : Type} (B : List ByteArray → σ → Tm → Bool) (S : List ByteArray → σ → Tm → σ) : Tm → List ByteArray → σ → Bool × σ
  | .node h l, ns, s => if B ns s (.node h l) = true then scK B S l h 0 ns (S ns s (.node h l)) else (false, S ns s (.node h l))
def scK {σ : Type} (B : List ByteArray → σ → Tm → Bool) (S : List ByteArray → σ → Tm → σ) : List Tm → Hd → Nat → List ByteArray → σ → Bool × σ
  | [], _, _, _, s => (true, s)
  | t :: ts, h, i, ns, s => if (scT B S t (boundP ns h i) s).1 = true then scK B S ts h (i + 1) ns (scT B S t (boundP ns h i) s).2 else (false, (scT B S t (boundP ns h i) s).2)
end
/-- Terms side by side. -/
def scL {σ : Type} (B : List ByteArray → σ → Tm → Bool) (S : List ByteArray → σ → Tm → σ) (ns : List ByteArray) : List Tm → σ → Bool × σ
  | [], s => (true, s)
  | t :: ts, s => if (scT B S t ns s).1 = true then scL B S ns ts (scT B S t ns s).2 else (false, (scT B S t ns s).2)
section
variable {σ : Type} (B : List ByteArray → σ → Tm → Bool) (S : List ByteArray → σ → Tm → σ)
theorem scT_eq (t : Tm) (ns : List ByteArray) (s : σ) : scT B S t ns s = if B ns s t = true then scK B S t.ks t.h 0 ns (S ns s t) else (false, S ns s t) := by
  cases t; conv => lhs; unfold scT
  rfl
theorem scK_nil (h : Hd) (i : Nat) (ns : List ByteArray) (s : σ) : scK B S [] h i ns s = (true, s) := by unfold scK; rfl
theorem scK_cons (t : Tm) (ts : List Tm) (h : Hd) (i : Nat) (ns : List ByteArray) (s : σ) : scK B S (t :: ts) h i ns s = if (scT B S t (boundP ns h i) s).1 = true then scK B S ts h (i + 1) ns (scT B S t (boundP ns h i) s).2 else (false, (scT B S t (boundP ns h i) s).2) := by
  conv => lhs; unfold scK
theorem scL_one (t : Tm) (ns : List ByteArray) (s : σ) : scL B S ns [t] s = scT B S t ns s := by
  unfold scL
  cases h : (scT B S t ns s).1
  · rw [if_neg (by simp)]; exact Prod.ext h.symm rfl
  · rw [if_pos rfl]; unfold scL; exact Prod.ext h.symm rfl
theorem scL_no {ts : List Tm} {j : Nat} {ns : List ByteArray} {u : σ} (hj : j < ts.length) (h : B ns u (tget ts j) = false) : scL B S ns (ts.drop j) u = (false, S ns u (tget ts j)) := by
  rw [drop_tget ts j hj, scL, scT_eq]
  simp [h]
theorem scL_kno {ts : List Tm} {j : Nat} {ns : List ByteArray} {u : σ} (hj : j < ts.length) (h : B ns u (tget ts j) = true) (hk : (scK B S (tget ts j).ks (tget ts j).h 0 ns (S ns u (tget ts j))).1 = false) : scL B S ns (ts.drop j) u = (false, (scK B S (tget ts j).ks (tget ts j).h 0 ns (S ns u (tget ts j))).2) := by
  rw [drop_tget ts j hj, scL, scT_eq, if_pos h, if_neg (by rw [hk]; exact Bool.false_ne_true)]
theorem scL_yes {ts : List Tm} {j : Nat} {ns : List ByteArray} {u : σ} (hj : j < ts.length) (h : B ns u (tget ts j) = true) (hk : (scK B S (tget ts j).ks (tget ts j).h 0 ns (S ns u (tget ts j))).1 = true) : scL B S ns (ts.drop j) u = scL B S ns (ts.drop (j + 1)) (scK B S (tget ts j).ks (tget ts j).h 0 ns (S ns u (tget ts j))).2 := by
  rw [drop_tget ts j hj, scL, scT_eq, if_pos h, if_pos hk]
theorem scK_no {ts : List Tm} {j : Nat} {h : Hd} {ns : List ByteArray} {u : σ} (hj : j < ts.length) (hk : (scT B S (tget ts j) (boundP ns h j) u).1 = false) : scK B S (ts.drop j) h j ns u = (false, (scT B S (tget ts j) (boundP ns h j) u).2) := by
  rw [drop_tget ts j hj, scK_cons, if_neg (by rw [hk]; exact Bool.false_ne_true)]
theorem scK_yes {ts : List Tm} {j : Nat} {h : Hd} {ns : List ByteArray} {u : σ} (hj : j < ts.length) (hk : (scT B S (tget ts j) (boundP ns h j) u).1 = true) : scK B S (ts.drop j) h j ns u = scK B S (ts.drop (j + 1)) h (j + 1) ns (scT B S (tget ts j) (boundP ns h j) u).2 := by
  rw [drop_tget ts j hj, scK_cons, if_pos hk]
end
theorem wts_drop (ts : List Tm) (j : Nat) (hj : j < ts.length) : wts (ts.drop j) = wts (tget ts j).ks + 1 + wts (ts.drop (j + 1)) := by
  rw [drop_tget ts j hj, wts_cons, Term.wt_ks]
theorem wts_drop' (ts : List Tm) (j : Nat) (hj : j < ts.length) : wts (ts.drop j) = wt (tget ts j) + wts (ts.drop (j + 1)) := by
  rw [drop_tget ts j hj, wts_cons]
theorem wt_drop_le (ts : List Tm) (j : Nat) : wts (ts.drop j) ≤ wts ts := by
  induction j generalizing ts with
  | zero => rw [List.drop_zero]; exact Nat.le_refl _
  | succ j ih =>
    cases ts with
    | nil => simp
    | cons t ts =>
      rw [List.drop_succ_cons, wts_cons]
      exact Nat.le_trans (ih ts) (by omega)

/-- What is asked of the state that the look at a node turns: what it reads, and its blocks. -/
structure Clo {σ : Type} (w0 : World) (B : Nat) (Z : World → Nat → Prop) (I : Nat → σ → World → Prop) : Prop where
  low : w0.heap.size ≤ B
  base : ∀ r s W, I r s W → Below w0.heap.size w0 W ∧ B ≤ W.heap.size
  zone : ∀ r s W b, I r s W → Z W b → B ≤ b ∧ b < W.heap.size
  keep : ∀ r s W W' v, I r s W → Keep (fun _ => False) v W W' → (∀ b, v.ownBlock = some b → B ≤ b ∧ ¬ Z W b) → I r s W' ∧ ∀ b, Z W' b → Z W b
  less : ∀ r r' s W, I r s W → r' ≤ r → I r' s W
/-- How such a call ends. -/
def AllEnd {σ : Type} (Z : World → Nat → Prop) (I : σ → World → Prop) (v : Value) (r : Bool × σ) (w : World) (e : Ending) (w' : World) : Prop :=
  e = .returned (.bool r.1) ∧ I r.2 w' ∧ Keep (Z w) v w w' ∧ ∀ b, b < w.heap.size → Z w' b → Z w b
/-- A row of names that the state doesn't own. -/
def Own (Z : World → Nat → Prop) (B : Nat) (W : World) (v : Value) (ns : List ByteArray) : Prop := Nm W B v ns ∧ ∀ b, v.ownBlock = some b → ¬ Z W b
theorem Own.dis {Z : World → Nat → Prop} {B : Nat} {W : World} {v : Value} {ns : List ByteArray} (h : Own Z B W v ns) : ∀ b, v.ownBlock = some b → B ≤ b ∧ ¬ Z W b := fun b hb => ⟨(h.1.high hb).1, h.2 b hb⟩
/-- Terms that stand side by side at W, with kids in w0. -/
def Tops (w0 W : World) (p : Option Addr) (ts : List Tm) : Prop :=
  ∀ i, i < ts.length → ∃ b o q c, p = some ⟨b, o, none⟩ ∧ TmIs w0 (tget ts i).h q (tget ts i).ks.length c (tget ts i) ∧
      W.cell? ⟨b, o + i * 8, none⟩ = some (.int .u8 (tget ts i).h.k) ∧ W.cell? ⟨b, o + i * 8 + 1, none⟩ = some (.int .u8 (tget ts i).h.op) ∧ W.cell? ⟨b, o + i * 8 + 2, none⟩ = some (.int .i64 (tget ts i).h.pl) ∧
      W.cell? ⟨b, o + i * 8 + 3, none⟩ = some (.int .i64 (tget ts i).h.n) ∧ W.cell? ⟨b, o + i * 8 + 4, none⟩ = some (.string (tget ts i).h.name) ∧ W.cell? ⟨b, o + i * 8 + 5, none⟩ = some (.string (tget ts i).h.arg) ∧
      W.cell? ⟨b, o + i * 8 + 6, none⟩ = some (.string (tget ts i).h.exn) ∧ W.cell? ⟨b, o + i * 8 + 7, none⟩ = some (.slice q (tget ts i).ks.length c)
theorem Tops.of_kids {w0 W : World} {p : Option Addr} {ts : List Tm} (h : Term.Kids w0 p ts) (hb : Below w0.heap.size w0 W) : Tops w0 W p ts := by
  intro i hi
  obtain ⟨b, o, q, c, hp, hk, c0, c1, c2, c3, c4, c5, c6, c7⟩ := h.get i hi
  have e : ∀ j, ∀ v, w0.cell? ⟨b, j, none⟩ = some v → W.cell? ⟨b, j, none⟩ = some v := fun j v hv => (hb.cell (p := ⟨b, j, none⟩) (World.block_lt_of_cell? _ _ hv)).trans hv
  exact ⟨b, o, q, c, hp, hk, e _ _ c0, e _ _ c1, e _ _ c2, e _ _ c3, e _ _ c4, e _ _ c5, e _ _ c6, e _ _ c7⟩
theorem Tops.of_box {w0 W : World} {L : Nat} {t : Tm} {q : Option Addr} {c : Nat} (hT : TmIs w0 t.h q t.ks.length c t) (h : W.heap[L]? = some (.cells #[.int .u8 t.h.k, .int .u8 t.h.op, .int .i64 t.h.pl, .int .i64 t.h.n, .string t.h.name, .string t.h.arg, .string t.h.exn, .slice q t.ks.length c] 27 (0, 0))) : Tops w0 W (some ⟨L, 0, none⟩) [t] := by
  intro i hi
  have hi0 : i = 0 := by simpa using hi
  subst hi0
  refine ⟨L, 0, q, c, rfl, hT, ?_⟩
  simp [World.cell?, h, tget]
/-- Where the terms stand that are handed in: in blocks that stay. -/
def Far (Z : World → Nat → Prop) (W : World) (v : Value) (p : Option Addr) : Prop := ∀ b o, p = some ⟨b, o, none⟩ → b < W.heap.size → ¬ Z W b ∧ v.ownBlock ≠ some b
theorem ne_box {w : World} {B : Nat} {v : Value} {ns : List ByteArray} {b : Nat} {cs : Array Value} {fr : Nat × Nat} (h : Nm w B v ns) (hb : w.heap[b]? = some (.cells cs 27 fr)) : v.ownBlock ≠ some b := by
  intro e
  rcases h.2 with ⟨rfl, _⟩ | ⟨g, cap, cur, rfl, _, hg, _⟩
  · simp [Value.ownBlock] at e
  · have : g = b := by simpa [Value.ownBlock] using e
    subst this
    rw [hb] at hg
    injection hg with hg
    injection hg with h1 h2 h3
    revert h2
    decide
/-- Ahead of a call for a kid: what was laid since is no matter. -/
theorem step_all {σ : Type} {w0 : World} {B : Nat} {Z : World → Nat → Prop} {I : Nat → σ → World → Prop} (hC : Clo w0 B Z I) {r : Nat} {s : σ} {v v1 : Value} {ns ns1 : List ByteArray} {v0 V2 : World} {L : Nat} {t : Tm} {q : Option Addr} {c : Nat} {R : Bool × σ} {r' : Nat} {K : Nat} {args : Array Value}
    (hi : I r s v0) (ho : Own Z B v0 v ns) (hk : Keep (fun _ => False) v v0 V2) (hn : Nm V2 B v1 ns1) (hv : (v1.ownBlock = v.ownBlock ∧ lenV v ≤ lenV v1) ∨ ∀ b, v1.ownBlock = some b → v0.heap.size ≤ b)
    (hL : v0.heap.size ≤ L) (hT : TmIs w0 t.h q t.ks.length c t) (hb : V2.heap[L]? = some (.cells #[.int .u8 t.h.k, .int .u8 t.h.op, .int .i64 t.h.pl, .int .i64 t.h.n, .string t.h.name, .string t.h.arg, .string t.h.exn, .slice q t.ks.length c] 27 (0, 0)))
    (hall : Tops w0 V2 (some ⟨L, 0, none⟩) [t] → Far Z V2 v1 (some ⟨L, 0, none⟩) → Own Z B V2 v1 ns1 → I r s V2 → Calls Tryd.prog K args V2 (AllEnd Z (I r') v1 R V2)) :
    Calls Tryd.prog K args V2 (AllEnd Z (I r') v R v0) := by
  obtain ⟨hi2, hz⟩ := hC.keep _ _ _ _ _ hi hk ho.dis
  have hzl : ∀ b, Z v0 b → b < v0.heap.size := fun b h => (hC.zone _ _ _ _ hi h).2
  have hd : ∀ b, v1.ownBlock = some b → ¬ Z V2 b := by
    intro b hb1 hzb
    rcases hv with hv | hv
    · exact ho.2 b (hv.1.symm.trans hb1) (hz b hzb)
    · have := hv b hb1
      have := hzl b (hz b hzb)
      omega
  refine (hall (Tops.of_box hT hb) (fun b o e _ => ?_) ⟨hn, hd⟩ hi2).mono ?_
  · injection e with e
    injection e with e1 e2
    subst e1
    exact ⟨fun h => by have := hzl _ (hz _ h); omega, ne_box hn hb⟩
  · rintro e W' ⟨he, h1, h2, h3⟩
    refine ⟨he, h1, (hk.weak (Z' := Z v0) (fun _ h => h.elim)).trans h2 (fun b _ h => hz b h) hv, fun b hb1 h => hz b (h3 b (Nat.lt_of_lt_of_le hb1 hk.size) h)⟩
theorem cells8' {W : World} {N : Nat} {a0 a1 a2 a3 a4 a5 a6 a7 : Value} {ty : TypeId} (h : W.heap[N]? = some (.cells #[a0, a1, a2, a3, a4, a5, a6, a7] ty (0, 0))) :
    (W.cell? ⟨N, 0, none⟩ = some a0 ∧ W.cell? ⟨N, 1, none⟩ = some a1 ∧ W.cell? ⟨N, 2, none⟩ = some a2 ∧ W.cell? ⟨N, 3, none⟩ = some a3 ∧ W.cell? ⟨N, 4, none⟩ = some a4 ∧ W.cell? ⟨N, 5, none⟩ = some a5 ∧ W.cell? ⟨N, 6, none⟩ = some a6 ∧ W.cell? ⟨N, 7, none⟩ = some a7) ∧
    (W.frozen? ⟨N, 0, none⟩ = false ∧ W.frozen? ⟨N, 1, none⟩ = false ∧ W.frozen? ⟨N, 2, none⟩ = false ∧ W.frozen? ⟨N, 3, none⟩ = false ∧ W.frozen? ⟨N, 4, none⟩ = false ∧ W.frozen? ⟨N, 5, none⟩ = false ∧ W.frozen? ⟨N, 6, none⟩ = false ∧ W.frozen? ⟨N, 7, none⟩ = false) := by
  simp [World.cell?, World.frozen?, h]
end Scope
end Go.Proofs.YtkcadkjpneoobaaDoor
