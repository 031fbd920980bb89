/- Those of a row of atoms that stay; the effect of atoms. -/
import Derived.Test.YtggabjmfdnfckaaGreatDoorEfCompR
import Derived.Laws.EntriesVeiled
namespace Go.Proofs.YtggabjmfdnfckaaGreatDoor
open Go.RowKit Go.Sort Go.Shelf Go.Lib
set_option linter.unusedVariables false
set_option linter.unusedSimpArgs false
namespace Effect

theorem infoAtom : (Tryz.prog.info? 47).map (fun i => (i.zero, i.size, i.bytes)) = some (some (.agg #[.int .u8 0, .int .i64 0, .string ⟨#[]⟩]), 3, 32) := by kernel_rfl
theorem info_parts : ∃ i, Tryz.prog.info? 47 = some i ∧ i.zero = some (.agg #[.int .u8 0, .int .i64 0, .string ⟨#[]⟩]) ∧ i.size = 3 ∧ i.bytes = 32 := by
  have h := infoAtom
  cases hi : Tryz.prog.info? 47 with
  | none => rw [hi] at h; cases h
  | some i =>
    rw [hi] at h
    simp only [Option.map_some, Option.some.injEq, Prod.mk.injEq] at h
    exact ⟨i, rfl, h.1, h.2.1, h.2.2⟩
theorem filter_step (p : At → Bool) (l : List At) (x : At) : (l ++ [x]).filter p = l.filter p ++ if p x then [x] else [] := by
  rw [List.filter_append]; cases h : p x <;> simp [h]
theorem at_take (l : List At) (j : Nat) (hj : j < l.length) : l.take (j + 1) = l.take j ++ [aget l j] := by
  rw [List.take_add_one, aget_at hj]; rfl
theorem enc_one (x : At) : ∀ u ∈ enc x, u.oneCell' = true := fun u hu => by
  simp [enc] at hu
  rcases hu with rfl | rfl | rfl <;> rfl
theorem flat_one (l : List At) : ∀ u ∈ flat l, u.oneCell' = true := fun u hu => by
  unfold flat at hu
  obtain ⟨a, _, ha⟩ := List.mem_flatMap.1 hu
  exact enc_one a u ha
theorem flat_single (x : At) : flat [x] = enc x := by simp [flat]
theorem new_atom {w : World} {N : Nat} {x : At} {ty : TypeId} (hN : N = w.heap.size) : ∀ j u, (enc x)[j]? = some u → (w.alloc (.cells #[.int .u8 x.k, .int .i64 x.r, .string x.x] ty)).cell? ((⟨N, 0, none⟩ : Addr).add j) = some u := by
  intro j u hu
  subst hN
  rw [Addr.add_lit, Nat.zero_add, World.cell?_alloc_mark]
  simpa [enc] using hu
/-- A row of one's own, from block B on. -/
def Row (B : Nat) (W : World) (v : Value) (l : List At) : Prop := W.ownsRow B 47 3 v l.length (flat l)
theorem Row.nil (B : Nat) (W : World) : Row B W (.slice none 0 0) [] := World.ownsRow_nil _ _ _ _
theorem Row.below {B : Nat} {W W' : World} {v : Value} {l : List At} (h : Row B W v l) (hb : Below W.heap.size W W') : Row B W' v l := own_below h hb
theorem Row.own {B m : Nat} {W W' : World} {v : Value} {l : List At} (h : Row B W v l) (hm : m = l.length) (hb : Below W.heap.size W W') : W'.ownsRow B 47 3 v m (flat l) := by
  subst hm; exact own_below h hb
theorem Row.slice {B : Nat} {W : World} {v : Value} {l : List At} (h : Row B W v l) : ∃ a c, v = .slice a l.length c := by
  obtain ⟨a, c, h1, _⟩ := own_slice h; exact ⟨a, c, h1⟩
theorem Row.at {B c n : Nat} {W : World} {a : Option Addr} {l : List At} (h : Row B W (.slice a n c) l) : n = l.length ∧ AtsAt W a l := by
  obtain ⟨a', c', h1⟩ := h.slice
  injection h1 with e1 e2 e3
  subst e2
  exact ⟨rfl, AtsAt.of_own rfl h⟩
theorem Row.grown {B : Nat} {W0 W W' : World} {v : Value} {l : List At} (h : Row B W v l) (hb : Below B W0 W) (hg : W.grownBy W' v.ownBlock) (hB : B ≤ W.heap.size) : Below B W0 W' := hb.grown hg hB fun g e => (h.lt g e).1

set_option maxRecDepth 100000 in
set_option maxHeartbeats 6400000 in
theorem withoutOdd_walk (n c : Nat) (a : Option Addr) (l : List At) (w : World) (hl : l.length = n) (hn : n ≤ 100000) (ha : AtsAt w a l) (hok : ∀ x ∈ l, x.x.size ≤ maxLen) :
    Calls Tryz.prog 34 #[.func (.func 39) #[] #[], .slice a n c] w fun e w' => ∃ v, e = .returned v ∧ Row w.heap.size w' v (l.filter atomB) ∧ Below w.heap.size w w' := by
  obtain ⟨i0, hi, hz0, hz2, hz3⟩ := info_parts
  have HI := Lib.hid hi; have HZ0 := Lib.hid hz0; have HZ2 := Lib.hid hz2; have HZ3 := Lib.hid hz3
  have HG := Lib.hid (fun (x : At) (W : World) (hx : x.x.size ≤ maxLen) (_ : Below w.heap.size w W) (_ : w.heap.size ≤ W.heap.size) => odd_walk x W hx)
  have HL := Lib.hid hl; have HA := Lib.hid ha; have HOK := Lib.hid hok
  clear hi hz0 hz2 hz3 hl ha hok
  go_enter Tryz.func34, Tryz.ntmps34
  go_wp2_with (fail)
  go_loopw [5, 10] (fun own i wr => ∃ (j m c1 : Nat) (a1 : Option Addr), j ≤ n ∧ m ≤ j ∧ i = .int .i64 (j : Int) ∧ own = .slice a1 m c1 ∧ Hid (m = ((l.take j).filter atomB).length) ∧ Hid (Row w.heap.size wr (.slice a1 m c1) ((l.take j).filter atomB)) ∧ Hid (Below w.heap.size w wr)) (fun _ i _ => n - (intOf i).toNat)
  case atStart => exact ⟨0, 0, 0, none, Nat.zero_le _, Nat.le_refl _, rfl, rfl, Lib.hid (by simp), Lib.hid (by rw [List.take_zero]; exact Row.nil _ _), Lib.hid (Below.refl _ _)⟩
  case round =>
    obtain ⟨j, m, c1, a1, hj, hmj, rfl, rfl, HM, HR, HS⟩ := hrel
    by_cases hlt : j < n
    · have hjl : j < l.length := by rw [HL.out]; exact hlt
      obtain ⟨b, o, rfl, e0, e1, e2⟩ := (HA.out.below HS.out).get j hjl
      have hx := HOK.out _ (aget_mem hjl)
      have htk := at_take l j hjl
      generalize aget l j = x at *
      have HX := Lib.hid hx; have HT := Lib.hid htk
      have HC := Lib.hid fun O : Obj => HG.out x (wr.alloc O) hx (Below.trans HS.out ((al_new O).mono HS.out.size)) (Nat.le_trans HS.out.size (by simp))
      clear hx htk hjl
      go_wp2_with (fail)
      refine (HC.out _).mono ?_
      rintro e w2 ⟨rfl, hb2⟩
      have hbox := (hb2.block wr.heap.size (by simp)).trans (heap_alloc_new wr _)
      obtain ⟨⟨x0, x1, x2⟩, -, -⟩ := c3 hbox
      have hB2 : Below wr.heap.size wr w2 := (al_new _).trans (hb2.mono (by simp))
      have HR2 := Lib.hid (HR.out.below hB2); have HS2 := Lib.hid (below_then HS.out hB2 HS.out.size)
      clear hb2 hbox hB2 e0 e1 e2
      cases hp : atomB x
      · have HP := Lib.hid hp
        clear hp
        simp only [Bool.not_false, Bool.not_true]
        go_wp2_with (fail)
        go_roundw
        case rel => exact ⟨j + 1, m, c1, a1, by omega, by omega, by go_num, rfl, Lib.hid (by rw [HT.out, filter_step, HP.out]; simpa using HM.out), Lib.hid (by rw [HT.out, filter_step, HP.out]; simpa using HR2.out), HS2⟩
        case measure => simp [intOf]; omega
      · have HP := Lib.hid hp
        clear hp
        simp only [Bool.not_false, Bool.not_true]
        go_wp2_with (at_builtin; refine wpList_append_own_at _ rfl (.tmp 18) (.tmp 20) 25 rfl w.heap.size 47 i0 _ 3 32 Tryz.underlying25 HI.out HZ0.out HZ2.out HZ3.out rfl (by omega) (.slice a1 m c1) m (flat ((l.take j).filter atomB)) rfl (HR2.out.own HM.out (al_new _)) _ 1 1 (enc x) rfl rfl (new_atom rfl) (enc_one x) (by unfold maxLen; omega) (by omega) (by have := HS2.out.size; simp; omega) ?_; intro v' w3 hown hgr hnil hat; obtain ⟨a3, c3', rfl, -, -⟩ := own_slice hown; have HR3 := Lib.hid hown; have HS3 := Lib.hid ((below_then HS2.out (al_new _) HS2.out.size).grown hgr (by have := HS2.out.size; simp; omega) fun g hg => (HR2.out.lt g hg).1); clear hown hgr hnil hat)
        go_roundw
        case rel => exact ⟨j + 1, m + 1, c3', a3, by omega, by omega, by go_num, rfl, Lib.hid (by rw [HT.out, filter_step, HP.out, List.length_append, ← HM.out]; rfl), Lib.hid (by have := HR3.out; unfold Row; rw [HT.out, filter_step, HP.out, flat_append, List.length_append, ← HM.out]; simpa [flat] using this), HS3⟩
        case measure => simp [intOf]; omega
    · obtain rfl : j = n := by omega
      have hr := HR.out
      rw [List.take_of_length_le (by rw [HL.out]; exact Nat.le_refl _)] at hr
      have HR' := Lib.hid hr
      clear hr
      go_wp2_with (fail)
      go_ret
      exact ⟨_, rfl, HR'.out, HS.out⟩
end Effect
end Go.Proofs.YtggabjmfdnfckaaGreatDoor
