/- The document's rows of names: each is made anew. -/
import Derived.Test.YtkcadkjpneoobaaDoorScopeL
import Derived.Test.YtkcadkjpneoobaaDoorScopeN
import Derived.Test.YtkcadkjpneoobaaDoorScopeTgM
namespace Go.Proofs.YtkcadkjpneoobaaDoor
open Go.RowKit
set_option linter.unusedVariables false
set_option linter.unusedSimpArgs false
namespace Scope
open Term (Tm Hd TmIs ret_bool ret_i64 tget wt wts wts_cons wts_nil)
open Words (str_no str_yes sel StrsAt)

/-- A row of texts that is only read. -/
def Rd (w : World) (v : Value) (ns : List ByteArray) : Prop := ∃ p d, v = .slice p ns.length d ∧ ns.length ≤ maxLen ∧ StrsAt w p ns
theorem Rd.below {w W : World} {v : Value} {ns : List ByteArray} (h : Rd w v ns) (hb : Below w.heap.size w W) : Rd W v ns := by
  obtain ⟨p, d, e, hm, hs⟩ := h
  exact ⟨p, d, e, hm, hs.below hb⟩
theorem Nm.rd {w : World} {B : Nat} {v : Value} {ns : List ByteArray} (h : Nm w B v ns) : Rd w v ns := by
  obtain ⟨p, d, rfl, hm⟩ := h.slice
  exact ⟨p, d, rfl, hm, h.strs.2⟩
theorem rd_empty (w : World) (p : Option Addr) (d : Nat) : Rd w (.slice p 0 d) [] := ⟨p, d, rfl, Nat.zero_le _, .inl rfl⟩
theorem rd_in {w : World} {v : Value} {ns : List ByteArray} (h : Rd w v ns) (x : ByteArray) :
    Calls Tryd.prog 19 #[v, .string x] w fun e w' => e = .returned (.bool (hasB ns x)) ∧ w = w' := by
  obtain ⟨p, d, rfl, hm, hs⟩ := h
  exact refIn_walk p ns.length d ns x w rfl hm hs
theorem rd_same {w : World} {v v' : Value} {ns ms : List ByteArray} (h : Rd w v ns) (h' : Rd w v' ms) :
    Calls Tryd.prog 13 #[v, v'] w fun e w' => e = .returned (.bool (decide (ns = ms))) ∧ Below w.heap.size w w' := by
  obtain ⟨p, d, rfl, hm, hs⟩ := h
  obtain ⟨p', d', rfl, hm', hs'⟩ := h'
  exact refSame_walk p p' ns.length ms.length d d' ns ms w rfl rfl hm hm' hs hs'
section
variable {P : Program}
theorem run_append_zero (w : World) (base : Nat) (t ty e : TypeId) (i : TypeInfo) (size : Nat) (ht : P.underlying t = some (.slice e)) (hi : P.info? e = some i)
    (v : Value) (n : Nat) (xs : List Value) (hown : w.ownsRow base e size v n xs) (p : Option Addr) (d : Nat) :
    (Builtin.append_ #[t, t] ty #[v, .slice p 0 d]).run P w = .ok v w := by
  rcases hown.2 with ⟨rfl, rfl⟩ | ⟨g, cap, cur, rfl, _, _, hnc, _⟩
  · cases p <;> simp [Builtin.append_, run_underlying ht, sizeOf, typeInfo, hi, Builtin.lenOf, Builtin.firstCells, loadCells, loadCellsFrom]
  · cases p <;> simp [Builtin.append_, run_underlying ht, sizeOf, typeInfo, hi, Builtin.lenOf, Builtin.firstCells, hnc, storeCells, loadCells, loadCellsFrom]
theorem wpList_append_zero {w : World} {ops : Array Oper} {rest : List Oper} {o : Oper} {a : Act} {Q : Exit → Act → World → Prop} (hgd : o.guard = none) (s x : Operand) (t : TypeId)
    (ho : o.op = .call { callee := .builtin .append, args := #[s, x], argTypes := #[t, t] })
    (base : Nat) (e : TypeId) (i : TypeInfo) (size : Nat) (ht : P.underlying t = some (.slice e)) (hi : P.info? e = some i)
    (v : Value) (n : Nat) (xs : List Value) (hs : a.eval s = v) (hown : w.ownsRow base e size v n xs) (p : Option Addr) (d : Nat) (hx : a.eval x = .slice p 0 d)
    (h : wpList P ops Q rest (a.put o.dst v) w) : wpList P ops Q (o :: rest) a w := by
  refine wpList_plain hgd fun K hK => ?_
  have hrun := run_append_zero (P := P) w base t o.type e i size ht hi v n xs hown p d
  unfold Oper.wp
  simp [execOp, ho, resolve, invoke, builtin, hs, hx, hrun, Result.andThen]
  exact hK _ _ h
end
def WithD (ns : List ByteArray) (w : World) (e : Ending) (w' : World) : Prop := ∃ v, e = .returned v ∧ Rd w' v ns ∧ Below w.heap.size w w'
/-- One text more, to a row that began in block g. -/
theorem with_end {w w1 w2 : World} {x : ByteArray} {ns : List ByteArray} {v1 v2 : Value} (n1 : Nm w1 w.heap.size v1 ns) (b1 : Below w.heap.size w w1)
    (n2 : w2.ownsRow w.heap.size 9 1 v2 (ns.length + 1) (ns.map Value.string ++ [.string x])) (k2 : Keep (fun _ => False) v1 (w1.alloc (.cells #[.string x] 9)) w2) : WithD (ns ++ [x]) w (.returned v2) w2 := by
  have hn : Nm w2 w.heap.size v2 (ns ++ [x]) := by
    unfold Nm
    rw [List.length_append, List.map_append]
    exact n2
  have ba : Below w1.heap.size w1 (w1.alloc (.cells #[.string x] 9)) := (Below.refl _ _).alloc (Nat.le_refl _) _
  refine ⟨v2, rfl, hn.rd, ⟨k2.os.trans b1.os, k2.tape.trans b1.tape, k2.output.trans b1.output, Nat.le_trans b1.size (Nat.le_trans ba.size k2.size), fun b hb => ?_⟩⟩
  have h1 := Nat.lt_of_lt_of_le hb b1.size
  exact (k2.block b (Nat.lt_of_lt_of_le h1 ba.size) (fun h => h) (fun e => by have := (n1.high e).1; omega)).trans ((ba.block b h1).trans (b1.block b hb))
set_option maxRecDepth 100000 in
set_option maxHeartbeats 6400000 in
theorem withD_walk (w : World) (v : Value) (ns : List ByteArray) (x : ByteArray) (h : Rd w v ns) (hn : ns.length ≤ 90000) :
    Calls Tryd.prog 42 #[v, .string x] w (WithD (ns ++ [x]) w) := by
  obtain ⟨i0, hi, hz0, hz1, hz2⟩ := info_parts infoS
  obtain ⟨p, d, rfl, hm, hs⟩ := h
  have ha : Below w.heap.size w (w.alloc (.cells #[] 9)) := (Below.refl _ _).alloc (Nat.le_refl _) _
  have hne := nm_empty (heap_alloc_new w (.cells #[] 9))
  have z1 : (w.alloc (.cells #[] 9)).heap.size = w.heap.size + 1 := by simp
  have HI := Lib.hid hi; have HZ0 := Lib.hid hz0; have HZ1 := Lib.hid hz1; have HZ2 := Lib.hid hz2; have HA := Lib.hid ha; have HNE := Lib.hid hne; have HZ := Lib.hid z1; have HN := Lib.hid hn
  clear hi hz0 hz1 hz2 ha hne z1 hm hn
  have hcx : ∀ W : World, ∀ j u, ([.string x] : List Value)[j]? = some u → (W.alloc (.cells #[.string x] 9)).cell? ((⟨W.heap.size, 0, none⟩ : Addr).add j) = some u := by
    intro W j u hj
    match j, hj with
    | 0, hj =>
      have hadd : (⟨W.heap.size, 0, none⟩ : Addr).add 0 = ⟨W.heap.size, 0, none⟩ := by unfold Addr.add; split <;> simp_all
      rw [hadd, World.cell?_alloc_mark]
      exact hj
  have HCX := Lib.hid hcx
  clear hcx
  cases ns with
  | nil =>
    clear hs
    go_enter Tryd.func42, Tryd.ntmps42
    go_wp2_with (at_builtin; go_loud (first | (refine wpList_append_zero rfl (.tmp 5) (.tmp 6) 39 rfl w.heap.size 9 i0 1 Tryd.underlying39 HI.out _ 0 _ rfl HNE.out p d rfl ?_) | (refine wpList_append_keep _ rfl (.tmp 7) (.tmp 9) 39 39 rfl w.heap.size 9 9 i0 (.string ⟨#[]⟩) 16 Tryd.underlying39 Tryd.underlying39 HI.out HZ0.out HZ1.out HZ2.out rfl (.slice (some ⟨w.heap.size, 0, none⟩) 0 0) 0 [] rfl (HNE.out.later ((Below.refl _ _).alloc (Nat.le_refl _) _)) ⟨(w.alloc (.cells #[] 9)).heap.size, 0, none⟩ 1 1 [.string x] (by rw [HZ.out]; rfl) rfl (HCX.out _) (by intro u hu; rw [List.mem_singleton] at hu; subst hu; rfl) (by unfold maxLen; omega) (by omega) (by simp; try omega) (by omega) ?_; intro v' w' h1 h2 h3; have H1 := Lib.hid h1; have H2 := Lib.hid h2; clear h1 h2 h3)))
    go_ret
    exact with_end HNE.out HA.out H1.out H2.out
  | cons y ys =>
    have hcs : ∃ b o, p = some ⟨b, o, none⟩ ∧ ∀ j u, ((y :: ys).map Value.string)[j]? = some u → (w.alloc (.cells #[] 9)).cell? ((⟨b, o, none⟩ : Addr).add j) = some u := by
      obtain ⟨b, o, rfl, _⟩ := hs.get 0 (by simp)
      refine ⟨b, o, rfl, fun j u hj => ?_⟩
      have hadd : (⟨b, o, none⟩ : Addr).add j = ⟨b, o + j, none⟩ := by unfold Addr.add; split <;> simp_all
      rw [hadd]
      obtain ⟨z, hz, rfl⟩ : ∃ z, (y :: ys)[j]? = some z ∧ Value.string z = u := by
        rw [List.getElem?_map] at hj
        cases hq : (y :: ys)[j]? with
        | none => rw [hq] at hj; cases hj
        | some z => rw [hq] at hj; exact ⟨z, rfl, by simpa using hj⟩
      obtain ⟨hjl, _⟩ := List.getElem?_eq_some_iff.1 hz
      obtain ⟨b', o', e, hc⟩ := (hs.below HA.out).get j hjl
      injection e with e
      injection e with e1 e2
      subst e1 e2
      rw [hc j hjl]
      unfold sel
      rw [List.getD_eq_getElem?_getD, hz]
      rfl
    obtain ⟨b, o, rfl, hcs⟩ := hcs
    have HCS := Lib.hid hcs
    clear hcs hs
    have h0 : 0 < (y :: ys).length := by simp
    generalize y :: ys = ms at *
    have hlen : ∀ v' w', w'.ownsRow w.heap.size 9 1 v' (0 + ms.length) ([] ++ ms.map Value.string) → Nm w' w.heap.size v' ms := by
      intro v' w' h
      rw [Nat.zero_add, List.nil_append] at h
      exact h
    have hfirst : ∀ v' w', Nm w' w.heap.size v' ms → Keep (fun _ => False) (.slice (some ⟨w.heap.size, 0, none⟩) 0 0) (w.alloc (.cells #[] 9)) w' → Below w.heap.size w w' := fun v' w' _ k =>
      ⟨k.os.trans HA.out.os, k.tape.trans HA.out.tape, k.output.trans HA.out.output, Nat.le_trans HA.out.size k.size, fun b hb => (k.block b (Nat.lt_of_lt_of_le hb HA.out.size) (fun h => h) (fun e => by simp [Value.ownBlock] at e; omega)).trans (HA.out.block b hb)⟩
    have HLEN := Lib.hid hlen; have HFIRST := Lib.hid hfirst; have H0 := Lib.hid h0
    clear hlen hfirst h0
    go_enter Tryd.func42, Tryd.ntmps42
    go_wp2_with (at_builtin; go_loud (first | (refine wpList_append_keep _ rfl (.tmp 5) (.tmp 6) 39 39 rfl w.heap.size 9 9 i0 (.string ⟨#[]⟩) 16 Tryd.underlying39 Tryd.underlying39 HI.out HZ0.out HZ1.out HZ2.out rfl (.slice (some ⟨w.heap.size, 0, none⟩) 0 0) 0 [] rfl HNE.out ⟨b, o, none⟩ ms.length d (ms.map Value.string) rfl (by rw [List.length_map]) HCS.out (by intro u hu; obtain ⟨y, _, rfl⟩ := List.mem_map.1 hu; rfl) (by have := HN.out; unfold maxLen; omega) (by have := HN.out; omega) (by simp) H0.out ?_; intro v1 w1 h1 h2 h3; have H1 := Lib.hid (HLEN.out _ _ h1); have B1 := Lib.hid (HFIRST.out _ _ H1.out h2); clear h1 h2 h3) | (refine wpList_append_keep _ rfl (.tmp 7) (.tmp 9) 39 39 rfl w.heap.size 9 9 i0 (.string ⟨#[]⟩) 16 Tryd.underlying39 Tryd.underlying39 HI.out HZ0.out HZ1.out HZ2.out rfl v1 ms.length (ms.map Value.string) rfl (H1.out.later ((Below.refl _ _).alloc (Nat.le_refl _) _)) ⟨w1.heap.size, 0, none⟩ 1 1 [.string x] rfl rfl (HCX.out _) (by intro u hu; rw [List.mem_singleton] at hu; subst hu; rfl) (by have := HN.out; unfold maxLen; omega) (by have := HN.out; omega) (by have := B1.out.size; simp; omega) (by omega) ?_; intro v2 w2 h1 h2 h3; have H2 := Lib.hid h1; have K2 := Lib.hid h2; clear h1 h2 h3)))
    go_ret
    exact with_end H1.out B1.out H2.out K2.out
end Scope
end Go.Proofs.YtkcadkjpneoobaaDoor
