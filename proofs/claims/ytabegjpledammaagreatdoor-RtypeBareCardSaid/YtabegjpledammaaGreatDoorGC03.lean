/-A row of atoms of one's own, sorted and made compact: the effect of its atoms. Those of a row of atoms that stay; the effect of atoms. The effect of atoms, as the program makes it. A row of one's own with room for n. Rows of atoms, one behind the other. All atoms of rows; whether one is within another one; whether two are the same. Rows that are read; Of and May of the program. The walks of a number's digits: the program's. -/
import Derived.Test.YtabegjpledammaaGreatDoorGC02
import Derived.Laws.EntriesVeiled
import Derived.Lib.AppendZerosOnto
import Derived.Maps.AppendAt
import Derived.Deep.Upon
import Derived.Test.YtabegjpledammaaGreatDoorGC00
import Derived.Test.YtabegjpledammaaGreatDoorEfShelf
import Derived.Lib.AppendIntMem
import Derived.Lib.LaidTab
import Derived.Lib.SmallJoins
import Derived.Laws.BytesArg
import Derived.LoopTactic
namespace Go.Proofs.YtabegjpledammaaGreatDoor
open Go.RowKit Go.Sort Go.Shelf Go.Lib
set_option linter.unusedVariables false
set_option linter.unusedSimpArgs false
namespace Effect

def compL (l : List At) : List At := compactUpTo l.toArray l.length
theorem mem_upTo {d : Array At} : ∀ (m : Nat), (∀ x ∈ compactUpTo d m, ∃ j, j < m ∧ d[j]! = x) ∧ ∀ j, j < m → d[j]! ∈ compactUpTo d m
  | 0 => ⟨fun x hx => by simp [compactUpTo] at hx, fun j hj => by omega⟩
  | m + 1 => by
    obtain ⟨h1, h2⟩ := mem_upTo (d := d) m
    rw [compactUpTo_succ]
    refine ⟨fun x hx => ?_, fun j hj => ?_⟩
    · rcases List.mem_append.1 hx with hx | hx
      · obtain ⟨j, a, b⟩ := h1 x hx; exact ⟨j, by omega, b⟩
      · split at hx
        · rw [List.mem_singleton] at hx; exact ⟨m, by omega, hx.symm⟩
        · cases hx
    · rcases Nat.lt_or_ge j m with hj' | hj'
      · exact List.mem_append_left _ (h2 j hj')
      · obtain rfl : j = m := by omega
        by_cases hk : keeps d j = true
        · rw [if_pos hk]; exact List.mem_append_right _ (List.mem_singleton.2 rfl)
        · have hk' : ¬ (j = 0 ∨ d[j]! ≠ d[j - 1]!) := by simpa [keeps] using hk
          have h0 : j ≠ 0 := fun e => hk' (.inl e)
          have he : d[j]! = d[j - 1]! := Classical.not_not.1 fun e => hk' (.inr e)
          rw [he]
          exact List.mem_append_left _ (h2 (j - 1) (by omega))
theorem up_sorted {d : Array At} (hs : ∀ i j, i < j → j < d.size → lessA d[j]! d[i]! = false) : ∀ (m : Nat), m ≤ d.size → Up (compactUpTo d m) ∧ ∀ x ∈ compactUpTo d m, lessA d[m - 1]! x = false
  | 0, _ => ⟨by simp [compactUpTo, Up], fun x hx => by simp [compactUpTo] at hx⟩
  | m + 1, hm => by
    obtain ⟨h1, h2⟩ := up_sorted hs m (by omega)
    have hpos : ∀ x ∈ compactUpTo d m, 0 < m := fun x hx => by
      rcases Nat.eq_zero_or_pos m with q | q
      · subst q; simp [compactUpTo] at hx
      · exact q
    have hle : ∀ x ∈ compactUpTo d m, lessA d[m]! x = false := fun x hx =>
      swoA.ntrans _ _ _ (hs (m - 1) m (by have := hpos x hx; omega) (by omega)) (h2 x hx)
    rw [compactUpTo_succ]
    by_cases hk : keeps d m = true
    · rw [if_pos hk]
      refine ⟨List.pairwise_append.2 ⟨h1, by simp, fun x hx y hy => ?_⟩, fun x hx => ?_⟩
      · rw [List.mem_singleton] at hy
        subst hy
        have hk' : m = 0 ∨ d[m]! ≠ d[m - 1]! := by simpa [keeps] using hk
        have hm0 := hpos x hx
        cases h3 : lessA x d[m]! with
        | true => rfl
        | false =>
          exfalso
          have e : x = d[m]! := lessA_total h3 (hle x hx)
          have h4 := h2 x hx
          rw [e] at h4
          have h5 := hs (m - 1) m (by omega) (by omega)
          exact hk'.resolve_left (by omega) (lessA_total h5 h4)
      · rcases List.mem_append.1 hx with hx | hx
        · exact hle x hx
        · rw [List.mem_singleton] at hx; subst hx; exact lessA_irrefl _
    · rw [if_neg hk, List.append_nil]
      exact ⟨h1, hle⟩
theorem mem_compL (l : List At) (x : At) : x ∈ compL l ↔ x ∈ l := by
  obtain ⟨h1, h2⟩ := mem_upTo (d := l.toArray) l.length
  constructor
  · intro hx
    obtain ⟨j, hj, e⟩ := h1 x hx
    rw [← e]
    simp [hj]
  · intro hx
    obtain ⟨j, hj, e⟩ := List.mem_iff_getElem.1 hx
    have := h2 j hj
    have e2 : l.toArray[j]! = x := by simp [hj, e]
    rw [e2] at this
    exact this
theorem up_compL {l : List At} (h : l.Pairwise fun x y => lessA y x = false) : Up (compL l) :=
  (up_sorted (d := l.toArray) (fun i j hij hj => by
    have hj' : j < l.length := by simpa using hj
    have := List.pairwise_iff_getElem.1 h i j (by omega) hj' hij
    simpa [hj', show i < l.length by omega] using this) l.length (by simp)).1
theorem compL_of {l s : List At} (hs : s.Pairwise fun x y => lessA y x = false) (hp : ∀ b, b ∈ s ↔ b ∈ l ∧ atomB b = true) : compL s = ofA l :=
  of_uniq (up_compL hs) fun b => by rw [mem_compL]; exact hp b
theorem compL_short {l : List At} (h : l.length < 2) : compL l = l := by
  match l, h with
  | [], _ => rfl
  | [x], _ => simp [compL, compactUpTo, keeps]
theorem compL_all {l : List At} (h : ∀ j, j < l.length → keeps l.toArray j = true) : compL l = l := by
  unfold compL
  rw [compactUpTo_all _ _ h]
  have := range_map_get l.toArray
  rw [List.size_toArray] at this
  exact this
set_option maxHeartbeats 3200000 in
theorem compact_short (a : Option Addr) (n c : Nat) (w : World) (hn : n < 2) : Calls Tryz.prog 79 #[.slice a n c] w fun e w' => e = .returned (.slice a n c) ∧ w' = w := by
  go_enter Tryz.func79, Tryz.ntmps79
  go_wp2_with (fail)
  go_ret
  exact ⟨rfl, rfl⟩
theorem compact_walk (B n c : Nat) (a : Option Addr) (l : List At) (w : World) (hl : l.length = n) (h : w.ownsRow B 69 3 (.slice a n c) n (flat l)) (hn : n ≤ 1000000) :
    Calls Tryz.prog 79 #[.slice a n c] w fun e w' => e = .returned (.slice a (compL l).length c) ∧ w'.ownsRow B 69 3 (.slice a (compL l).length c) (compL l).length (flat (compL l)) ∧ w.grownBy w' (Value.slice a n c).ownBlock := by
  subst hl
  by_cases h2 : l.length < 2
  · refine (compact_short a l.length c w h2).mono ?_
    rintro e w' ⟨rfl, rfl⟩
    rw [compL_short h2]
    exact ⟨rfl, h, ⟨rfl, rfl, rfl, Nat.le_refl _, fun _ _ _ => rfl⟩⟩
  · rcases h.2 with ⟨hv, h0⟩ | ⟨g, cap, cur, hv, hb, hg, k1, k2, k3, k4⟩
    · omega
    · injection hv with hv1 hv2 hv3
      subst hv1 hv3
      have hH : HoldsK enc 3 w g 0 l.toArray := by
        unfold HoldsK
        rw [flatK_flat]
        exact holdsV hg (by rw [flat_len]; exact k4)
      refine (compact_mid g l.length c l.toArray w (by simp) hH (lt_of_block hg) (by omega) k1 hn).mono ?_
      rintro e w' (⟨rfl, hall, q, rfl⟩ | ⟨K, q, dk, rfl, hI, rfl⟩)
      · rw [compL_all hall]
        exact ⟨rfl, ⟨h.1, .inr ⟨g, c, cur, rfl, hb, hg, k1, k2, k3, k4⟩⟩, ⟨rfl, rfl, rfl, Nat.le_refl _, fun _ _ _ => rfl⟩⟩
      · obtain ⟨h3, h4⟩ := comp_end (q := q) (by simp) hb hg k1 k2 k3 hI
        have hK : (compL l).length = K := hI.len
        rw [hK]
        exact ⟨rfl, h3, h4⟩
end Effect
end Go.Proofs.YtabegjpledammaaGreatDoor
namespace Go.Proofs.YtabegjpledammaaGreatDoor
open Go.RowKit Go.Sort Go.Shelf Go.Lib
set_option linter.unusedVariables false
set_option linter.unusedSimpArgs false
namespace Effect

theorem infoAtom : (Tryz.prog.info? 69).map (fun i => (i.zero, i.size, i.bytes)) = some (some (.agg #[.int .u8 0, .int .i64 0, .string ⟨#[]⟩]), 3, 32) := by kernel_rfl
theorem info_parts : ∃ i, Tryz.prog.info? 69 = some i ∧ i.zero = some (.agg #[.int .u8 0, .int .i64 0, .string ⟨#[]⟩]) ∧ i.size = 3 ∧ i.bytes = 32 := by
  have h := infoAtom
  cases hi : Tryz.prog.info? 69 with
  | none => rw [hi] at h; cases h
  | some i =>
    rw [hi] at h
    simp only [Option.map_some, Option.some.injEq, Prod.mk.injEq] at h
    exact ⟨i, rfl, h.1, h.2.1, h.2.2⟩
theorem filter_step (p : At → Bool) (l : List At) (x : At) : (l ++ [x]).filter p = l.filter p ++ if p x then [x] else [] := by
  rw [List.filter_append]; cases h : p x <;> simp [h]
theorem at_take (l : List At) (j : Nat) (hj : j < l.length) : l.take (j + 1) = l.take j ++ [aget l j] := by
  rw [List.take_add_one, aget_at hj]; rfl
theorem enc_one (x : At) : ∀ u ∈ enc x, u.oneCell' = true := fun u hu => by
  simp [enc] at hu
  rcases hu with rfl | rfl | rfl <;> rfl
theorem flat_one (l : List At) : ∀ u ∈ flat l, u.oneCell' = true := fun u hu => by
  unfold flat at hu
  obtain ⟨a, _, ha⟩ := List.mem_flatMap.1 hu
  exact enc_one a u ha
theorem flat_single (x : At) : flat [x] = enc x := by simp [flat]
theorem new_atom {w : World} {N : Nat} {x : At} {ty : TypeId} (hN : N = w.heap.size) : ∀ j u, (enc x)[j]? = some u → (w.alloc (.cells #[.int .u8 x.k, .int .i64 x.r, .string x.x] ty)).cell? ((⟨N, 0, none⟩ : Addr).add j) = some u := by
  intro j u hu
  subst hN
  rw [Addr.add_lit, Nat.zero_add, World.cell?_alloc_mark]
  simpa [enc] using hu
/-- A row of one's own, from block B on. -/
def Row (B : Nat) (W : World) (v : Value) (l : List At) : Prop := W.ownsRow B 69 3 v l.length (flat l)
theorem Row.nil (B : Nat) (W : World) : Row B W (.slice none 0 0) [] := World.ownsRow_nil _ _ _ _
theorem Row.below {B : Nat} {W W' : World} {v : Value} {l : List At} (h : Row B W v l) (hb : Below W.heap.size W W') : Row B W' v l := own_below h hb
theorem Row.own {B m : Nat} {W W' : World} {v : Value} {l : List At} (h : Row B W v l) (hm : m = l.length) (hb : Below W.heap.size W W') : W'.ownsRow B 69 3 v m (flat l) := by
  subst hm; exact own_below h hb
theorem Row.slice {B : Nat} {W : World} {v : Value} {l : List At} (h : Row B W v l) : ∃ a c, v = .slice a l.length c := by
  obtain ⟨a, c, h1, _⟩ := own_slice h; exact ⟨a, c, h1⟩
theorem Row.at {B c n : Nat} {W : World} {a : Option Addr} {l : List At} (h : Row B W (.slice a n c) l) : n = l.length ∧ AtsAt W a l := by
  obtain ⟨a', c', h1⟩ := h.slice
  injection h1 with e1 e2 e3
  subst e2
  exact ⟨rfl, AtsAt.of_own rfl h⟩
theorem Row.grown {B : Nat} {W0 W W' : World} {v : Value} {l : List At} (h : Row B W v l) (hb : Below B W0 W) (hg : W.grownBy W' v.ownBlock) (hB : B ≤ W.heap.size) : Below B W0 W' := hb.grown hg hB fun g e => (h.lt g e).1

set_option maxRecDepth 100000 in
set_option maxHeartbeats 6400000 in
theorem withoutOdd_walk (n c : Nat) (a : Option Addr) (l : List At) (w : World) (hl : l.length = n) (hn : n ≤ 100000) (ha : AtsAt w a l) (hok : ∀ x ∈ l, x.x.size ≤ maxLen) :
    Calls Tryz.prog 75 #[.func (.func 76) #[] #[], .slice a n c] w fun e w' => ∃ v, e = .returned v ∧ Row w.heap.size w' v (l.filter atomB) ∧ Below w.heap.size w w' := by
  obtain ⟨i0, hi, hz0, hz2, hz3⟩ := info_parts
  have HI := Lib.hid hi; have HZ0 := Lib.hid hz0; have HZ2 := Lib.hid hz2; have HZ3 := Lib.hid hz3
  have HG := Lib.hid (fun (x : At) (W : World) (hx : x.x.size ≤ maxLen) (_ : Below w.heap.size w W) (_ : w.heap.size ≤ W.heap.size) => odd_walk x W hx)
  have HL := Lib.hid hl; have HA := Lib.hid ha; have HOK := Lib.hid hok
  clear hi hz0 hz2 hz3 hl ha hok
  go_enter Tryz.func75, Tryz.ntmps75
  go_wp2_with (fail)
  go_loopw [5, 10] (fun own i wr => ∃ (j m c1 : Nat) (a1 : Option Addr), j ≤ n ∧ m ≤ j ∧ i = .int .i64 (j : Int) ∧ own = .slice a1 m c1 ∧ Hid (m = ((l.take j).filter atomB).length) ∧ Hid (Row w.heap.size wr (.slice a1 m c1) ((l.take j).filter atomB)) ∧ Hid (Below w.heap.size w wr)) (fun _ i _ => n - (intOf i).toNat)
  case atStart => exact ⟨0, 0, 0, none, Nat.zero_le _, Nat.le_refl _, rfl, rfl, Lib.hid (by simp), Lib.hid (by rw [List.take_zero]; exact Row.nil _ _), Lib.hid (Below.refl _ _)⟩
  case round =>
    obtain ⟨j, m, c1, a1, hj, hmj, rfl, rfl, HM, HR, HS⟩ := hrel
    by_cases hlt : j < n
    · have hjl : j < l.length := by rw [HL.out]; exact hlt
      obtain ⟨b, o, rfl, e0, e1, e2⟩ := (HA.out.below HS.out).get j hjl
      have hx := HOK.out _ (aget_mem hjl)
      have htk := at_take l j hjl
      generalize aget l j = x at *
      have HX := Lib.hid hx; have HT := Lib.hid htk
      have HC := Lib.hid fun O : Obj => HG.out x (wr.alloc O) hx (Below.trans HS.out ((al_new O).mono HS.out.size)) (Nat.le_trans HS.out.size (by simp))
      clear hx htk hjl
      go_wp2_with (fail)
      refine (HC.out _).mono ?_
      rintro e w2 ⟨rfl, hb2⟩
      have hbox := (hb2.block wr.heap.size (by simp)).trans (heap_alloc_new wr _)
      obtain ⟨⟨x0, x1, x2⟩, -, -⟩ := c3 hbox
      have hB2 : Below wr.heap.size wr w2 := (al_new _).trans (hb2.mono (by simp))
      have HR2 := Lib.hid (HR.out.below hB2); have HS2 := Lib.hid (below_then HS.out hB2 HS.out.size)
      clear hb2 hbox hB2 e0 e1 e2
      cases hp : atomB x
      · have HP := Lib.hid hp
        clear hp
        simp only [Bool.not_false, Bool.not_true]
        go_wp2_with (fail)
        go_roundw
        case rel => exact ⟨j + 1, m, c1, a1, by omega, by omega, by go_num, rfl, Lib.hid (by rw [HT.out, filter_step, HP.out]; simpa using HM.out), Lib.hid (by rw [HT.out, filter_step, HP.out]; simpa using HR2.out), HS2⟩
        case measure => simp [intOf]; omega
      · have HP := Lib.hid hp
        clear hp
        simp only [Bool.not_false, Bool.not_true]
        go_wp2_with (at_builtin; refine wpList_append_own_at _ rfl (.tmp 18) (.tmp 20) 22 rfl w.heap.size 69 i0 _ 3 32 Tryz.underlying22 HI.out HZ0.out HZ2.out HZ3.out rfl (by omega) (.slice a1 m c1) m (flat ((l.take j).filter atomB)) rfl (HR2.out.own HM.out (al_new _)) _ 1 1 (enc x) rfl rfl (new_atom rfl) (enc_one x) (by unfold maxLen; omega) (by omega) (by have := HS2.out.size; simp; omega) ?_; intro v' w3 hown hgr hnil hat; obtain ⟨a3, c3', rfl, -, -⟩ := own_slice hown; have HR3 := Lib.hid hown; have HS3 := Lib.hid ((below_then HS2.out (al_new _) HS2.out.size).grown hgr (by have := HS2.out.size; simp; omega) fun g hg => (HR2.out.lt g hg).1); clear hown hgr hnil hat)
        go_roundw
        case rel => exact ⟨j + 1, m + 1, c3', a3, by omega, by omega, by go_num, rfl, Lib.hid (by rw [HT.out, filter_step, HP.out, List.length_append, ← HM.out]; rfl), Lib.hid (by have := HR3.out; unfold Row; rw [HT.out, filter_step, HP.out, flat_append, List.length_append, ← HM.out]; simpa [flat] using this), HS3⟩
        case measure => simp [intOf]; omega
    · obtain rfl : j = n := by omega
      have hr := HR.out
      rw [List.take_of_length_le (by rw [HL.out]; exact Nat.le_refl _)] at hr
      have HR' := Lib.hid hr
      clear hr
      go_wp2_with (fail)
      go_ret
      exact ⟨_, rfl, HR'.out, HS.out⟩
end Effect
end Go.Proofs.YtabegjpledammaaGreatDoor
namespace Go.Proofs.YtabegjpledammaaGreatDoor
open Go.RowKit Go.Sort Go.Shelf Go.Lib
set_option linter.unusedVariables false
set_option linter.unusedSimpArgs false
namespace Effect

set_option maxRecDepth 100000 in
set_option maxHeartbeats 6400000 in
theorem of_walk (n c : Nat) (a : Option Addr) (l : List At) (w : World) (hl : l.length = n) (hn : n ≤ 100000) (ha : AtsAt w a l) (hok : ∀ x ∈ l, x.x.size ≤ maxLen) :
    Calls Tryz.prog 63 #[.slice a n c] w fun e w' => ∃ v, e = .returned v ∧ Row w.heap.size w' v (ofA l) ∧ Below w.heap.size w w' := by
  have HC := Lib.hid (withoutOdd_walk n c a l w hl hn ha hok)
  have HL := Lib.hid hl; have HN := Lib.hid hn
  clear ha hok
  go_enter Tryz.func63, Tryz.ntmps63
  go_wp2_with (fail)
  refine HC.out.mono ?_
  rintro e w1 ⟨v, rfl, hr1, hb1⟩
  obtain ⟨a1, c1, rfl⟩ := hr1.slice
  have hfl : (l.filter atomB).length ≤ l.length := List.length_filter_le _ _
  have hmem : ∀ b, b ∈ l.filter atomB ↔ b ∈ l ∧ atomB b = true := fun b => by rw [List.mem_filter]
  generalize l.filter atomB = k at *
  have HM := Lib.hid hmem; have HR1 := Lib.hid hr1; have HB1 := Lib.hid hb1; have HF := Lib.hid hfl
  have HS := Lib.hid (sort_walk w.heap.size k.length c1 a1 k w1 rfl hr1 (by omega))
  obtain ⟨m, hm⟩ : ∃ m, k.length = m := ⟨_, rfl⟩
  have HK := Lib.hid hm
  have hm2 : m ≤ n := by omega
  rw [hm] at HS ⊢
  clear hmem hr1 hb1 hfl hm hl
  go_wp2_with (fail)
  refine HS.out.mono ?_
  rintro e w2 ⟨rfl, s, hsl, hp, hpw, hs2, hg2⟩
  have HB2 := Lib.hid (HB1.out.grown hg2 HB1.out.size fun g e => (HR1.out.lt g (by rw [HK.out]; exact e)).1)
  have HE := Lib.hid (compL_of (l := l) hpw fun b => by rw [hp.mem_iff]; exact HM.out b)
  have HW := Lib.hid hs2
  have HT := Lib.hid (compact_walk w.heap.size m c1 a1 s w2 (by rw [hsl]) hs2 (by omega))
  clear hsl hp hpw hs2 hg2
  go_wp2_with (fail)
  refine HT.out.mono ?_
  rintro e w3 ⟨rfl, hs3, hg3⟩
  have HB3 := Lib.hid (HB2.out.grown hg3 HB2.out.size fun g e => (HW.out.lt g e).1)
  have HW3 := Lib.hid hs3
  clear hs3 hg3
  go_wp2_with (fail)
  go_ret
  exact ⟨_, rfl, by unfold Row; rw [← HE.out]; exact HW3.out, HB3.out⟩
end Effect
end Go.Proofs.YtabegjpledammaaGreatDoor
namespace Go.Proofs.YtabegjpledammaaGreatDoor
open Go.RowKit Go.Sort Go.Shelf Go.Lib
set_option linter.unusedVariables false
set_option linter.unusedSimpArgs false
namespace Effect

/-- An append that is known. -/
theorem wpList_append_made {P : Program} {w w' : World} {ops : Array Oper} {rest : List Oper} {o : Oper} {a : Act} {Q : Exit → Act → World → Prop} (hgd : o.guard = none) (s x : Operand) (t t2 : TypeId)
    (ho : o.op = .call { callee := .builtin .append, args := #[s, x], argTypes := #[t, t2] }) (v xv r : Value) (hs : a.eval s = v) (hx : a.eval x = xv)
    (hr : ∀ ty, (Builtin.append_ #[t, t2] ty #[v, xv]).run P w = .ok r w') (h : wpList P ops Q rest (a.put o.dst r) w') : wpList P ops Q (o :: rest) a w := by
  refine wpList_plain hgd fun K hK => ?_
  unfold Oper.wp execOp
  simp only [ho, resolve, invoke, builtin, Sem.run_bind, Sem.run_pure, Result.andThen_ok, List.map_toArray, List.map_cons, List.map_nil, hs, hx, hr]
  exact hK _ _ h
theorem grow_zeros (n : Nat) (w : World) (h0 : 0 < n) (hn : n ≤ 100000) :
    ∃ c cur, (∀ ty, (Builtin.append_ #[22, 3] ty #[.slice none 0 0, .int .i64 (n : Int)]).run Tryz.prog w = .ok (.slice (some ⟨w.heap.size, 0, none⟩) n c) (w.drew.alloc (.cells cur 69))) ∧ cur.size = c * 3 ∧ n ≤ c ∧ c ≤ maxLen := by
  obtain ⟨i0, hi, hz0, hz2, hz3⟩ := info_parts
  have h := fun ty => run_append_grow_zeros (P := Tryz.prog) w 22 3 ty 69 i0 _ .i64 .i64 Tryz.underlying22 Tryz.underlying3 hi hz0 none 0 0 [] (by rw [hz2]; exact run_firstCells_none w.drew 3 0 0 0) n h0 (by omega) (by omega) (by omega) (by rw [hz3]; omega) (by
    rw [hz3, Nat.zero_add, nextslicecap_zero h0]; omega)
  simp only [Nat.zero_add] at h
  have hge := grownCap_ge w n 0 69
  have hcm := grownCap_le_maxLen w n 0 69 (by unfold maxLen; omega)
  refine ⟨_, _, h, ?_, hge, hcm⟩
  simp only [Array.size_append, size_zeroCells, List.size_toArray, List.length_nil, Value.cells]
  show 0 + n * 3 + _ * 3 = _
  omega
set_option maxRecDepth 100000 in
set_option maxHeartbeats 6400000 in
theorem grow_walk (n : Nat) (w : World) (hn : n ≤ 100000) : Calls Tryz.prog 102 #[.slice none 0 0, .int .i64 (n : Int)] w fun e w' => ∃ v, e = .returned v ∧ Row w.heap.size w' v [] ∧ Below w.heap.size w w' := by
  by_cases h0 : n = 0
  · subst h0
    go_enter Tryz.func102, Tryz.ntmps102
    go_wp2_with (fail)
    go_ret
    exact ⟨_, rfl, Row.nil _ _, Below.refl _ _⟩
  · obtain ⟨c, cur, hg, h1, h2, h3⟩ := grow_zeros n w (by omega) hn
    have hpos : (0 : Int) < n := by omega
    have HG := Lib.hid hg
    clear hg
    go_enter Tryz.func102, Tryz.ntmps102
    go_wp2_with (at_builtin; refine wpList_append_made rfl (.tmp 20) (.tmp 21) 22 3 rfl (.slice none 0 0) (.int .i64 (n : Int)) _ rfl rfl HG.out ?_)
    go_ret
    refine ⟨_, rfl, ⟨rfl, .inr ⟨w.heap.size, c, cur, rfl, Nat.le_refl _, heap_alloc_new w.drew _, Nat.zero_le _, h3, h1, rfl⟩⟩, (Below.refl _ _).drew.alloc (Nat.le_refl _) _⟩
end Effect
end Go.Proofs.YtabegjpledammaaGreatDoor
namespace Go.Proofs.YtabegjpledammaaGreatDoor
open Go.RowKit Go.Sort Go.Shelf Go.Lib
set_option linter.unusedVariables false
set_option linter.unusedSimpArgs false
namespace Effect

def rget (rs : List (List At)) (i : Nat) : List At := rs.getD i []
theorem rget_at {rs : List (List At)} {i : Nat} (h : i < rs.length) : rs[i]? = some (rget rs i) := by
  unfold rget; rw [List.getD_eq_getElem?_getD, List.getElem?_eq_getElem h]; rfl
theorem rget_mem {rs : List (List At)} {i : Nat} (h : i < rs.length) : rget rs i ∈ rs := List.mem_of_getElem? (rget_at h)
theorem rtake (rs : List (List At)) (j : Nat) (hj : j < rs.length) : (rs.take (j + 1)).flatten = (rs.take j).flatten ++ rget rs j := by
  rw [List.take_add_one, rget_at hj, List.flatten_append]; simp
theorem rtake_le (rs : List (List At)) (j : Nat) : (rs.take j).flatten.length ≤ rs.flatten.length := by
  have := List.take_append_drop j rs
  have h : rs.flatten = (rs.take j).flatten ++ (rs.drop j).flatten := by rw [← List.flatten_append, this]
  rw [h, List.length_append]; omega
/-- Rows of atoms in memory. -/
def RowsAt (w : World) (p : Option Addr) (rs : List (List At)) : Prop := rs = [] ∨ ∃ b o, p = some ⟨b, o, none⟩ ∧ ∀ i, i < rs.length → ∃ q c, w.cell? ⟨b, o + i, none⟩ = some (.slice q (rget rs i).length c) ∧ AtsAt w q (rget rs i)
theorem RowsAt.below {w W : World} {p : Option Addr} {rs : List (List At)} (h : RowsAt w p rs) (hb : Below w.heap.size w W) : RowsAt W p rs := by
  refine h.imp id ?_
  rintro ⟨b, o, hp, hc⟩
  refine ⟨b, o, hp, fun i hi => ?_⟩
  obtain ⟨q, c, h1, h2⟩ := hc i hi
  exact ⟨q, c, (hb.cell (p := ⟨b, _, none⟩) (World.block_lt_of_cell? w _ h1)).trans h1, h2.below hb⟩
theorem RowsAt.get {w : World} {p : Option Addr} {rs : List (List At)} (h : RowsAt w p rs) (i : Nat) (hi : i < rs.length) : ∃ b o q c, p = some ⟨b, o, none⟩ ∧ w.cell? ⟨b, o + i, none⟩ = some (.slice q (rget rs i).length c) ∧ AtsAt w q (rget rs i) := by
  rcases h with rfl | ⟨b, o, hp, hc⟩
  · simp at hi
  · obtain ⟨q, c, h1, h2⟩ := hc i hi
    exact ⟨b, o, q, c, hp, h1, h2⟩
theorem AtsAt.cells {w : World} {b o : Nat} {l : List At} (h : AtsAt w (some ⟨b, o, none⟩) l) : ∀ j u, (flat l)[j]? = some u → w.cell? ((⟨b, o, none⟩ : Addr).add j) = some u := by
  intro j u hu
  have hj : j < l.length * 3 := by
    rcases Nat.lt_or_ge j (flat l).length with q | q
    · rw [flat_len] at q; exact q
    · rw [List.getElem?_eq_none q] at hu; cases hu
  have hi : j / 3 < l.length := by omega
  rcases h with rfl | ⟨b', o', hp, hc⟩
  · simp at hi
  · injection hp with hp
    injection hp with h1 h2 h3
    subst h1 h2
    obtain ⟨e0, e1, e2⟩ := hc (j / 3) hi
    have hf := flat_get l (j / 3) hi (j % 3) (Nat.mod_lt j (by omega))
    rw [show j / 3 * 3 + j % 3 = j by omega, hu] at hf
    rw [Addr.add_lit]
    rcases (by omega : j % 3 = 0 ∨ j % 3 = 1 ∨ j % 3 = 2) with q | q | q
    · rw [q] at hf; simp [enc] at hf; rw [show o + j = o + j / 3 * 3 by omega, e0, hf]
    · rw [q] at hf; simp [enc] at hf; rw [show o + j = o + j / 3 * 3 + 1 by omega, e1, hf]
    · rw [q] at hf; simp [enc] at hf; rw [show o + j = o + j / 3 * 3 + 2 by omega, e2, hf]
theorem append_row {B m c1 l c : Nat} {W : World} {a1 q : Option Addr} {xs k : List At} (h : Row B W (.slice a1 m c1) xs) (hm : m = xs.length) (hl : l = k.length) (hk : AtsAt W q k) (hn : m + l ≤ 100000) (hB : B ≤ W.heap.size) :
    ∃ a' c' w', (∀ ty, (Builtin.append_ #[22, 22] ty #[.slice a1 m c1, .slice q l c]).run Tryz.prog W = .ok (.slice a' (m + l) c') w') ∧ Row B w' (.slice a' (m + l) c') (xs ++ k) ∧ W.grownBy w' (Value.slice a1 m c1).ownBlock := by
  subst hm hl
  obtain ⟨i0, hi, hz0, hz2, hz3⟩ := info_parts
  have hlen : (xs ++ k).length = xs.length + k.length := List.length_append
  by_cases h0 : k = []
  · subst h0
    have hcap : xs.length ≤ c1 := by obtain ⟨a, c, e, _, h2⟩ := own_slice h; injection e with e1 e2 e3; omega
    refine ⟨a1, c1, W, fun ty => ?_, by rw [List.append_nil]; exact h, ⟨rfl, rfl, rfl, Nat.le_refl _, fun _ _ _ => rfl⟩⟩
    cases a1 <;> cases q <;> simp [Builtin.append_, run_underlying Tryz.underlying22, sizeOf, typeInfo, hi, hcap, Builtin.firstCells, Builtin.lenOf, Go.loadCells, loadCells, loadCellsFrom, storeCells]
  · have hpos : 0 < k.length := List.length_pos_iff.2 h0
    rcases hk with hk0 | ⟨b, o, rfl, hc⟩
    · exact absurd hk0 h0
    · obtain ⟨v', w', hr, ho, hg, _, _⟩ := run_append_own_at (P := Tryz.prog) W B 22 0 69 i0 _ 3 32 Tryz.underlying22 hi hz0 hz2 hz3 rfl (by omega) (.slice a1 xs.length c1) xs.length (flat xs) h ⟨b, o, none⟩ k.length c (flat k) (flat_len k) (AtsAt.cells (.inr ⟨b, o, rfl, hc⟩)) (flat_one k) (by unfold maxLen; omega) (by omega) hB
      obtain ⟨a', c', rfl, _, _⟩ := own_slice ho
      refine ⟨a', c', w', fun ty => hr, ?_, hg⟩
      unfold Row
      rw [flat_append, hlen]
      exact ho
set_option maxRecDepth 100000 in
set_option maxHeartbeats 6400000 in
theorem concat_walk (n c : Nat) (p : Option Addr) (rs : List (List At)) (w : World) (hl : rs.length = n) (hn : n ≤ 100000) (hr : RowsAt w p rs) (hs : rs.flatten.length ≤ 100000) :
    Calls Tryz.prog 80 #[.slice p n c] w fun e w' => ∃ v, e = .returned v ∧ Row w.heap.size w' v rs.flatten ∧ Below w.heap.size w w' := by
  have HL := Lib.hid hl; have HR := Lib.hid hr; have HS := Lib.hid hs
  clear hl hr hs
  go_enter Tryz.func80, Tryz.ntmps80
  go_wp2_with (fail)
  go_loopw [3, 5, 11] (fun s3 _ i wr => ∃ j m : Nat, j ≤ n ∧ m ≤ 100000 ∧ i = .int .i64 (j : Int) ∧ s3 = .int .i64 (m : Int) ∧ Hid (m = (rs.take j).flatten.length) ∧ Hid (wr = w)) (fun _ _ i _ => n - (intOf i).toNat)
  case atStart => exact ⟨0, 0, Nat.zero_le _, Nat.zero_le _, rfl, rfl, Lib.hid (by simp), Lib.hid rfl⟩
  case round =>
    obtain ⟨j, m, hj, hm, rfl, rfl, HM, HW⟩ := hrel
    by_cases hlt : j < n
    · have hjl : j < rs.length := by rw [HL.out]; exact hlt
      obtain ⟨b, o, q, c', rfl, e0, -⟩ := HR.out.get j hjl
      rw [← HW.out] at e0
      have hm2 : (rs.take (j + 1)).flatten.length = m + (rget rs j).length := by rw [rtake rs j hjl, List.length_append, HM.out]
      have hle := rtake_le rs (j + 1)
      generalize (rget rs j).length = d at *
      have hmd : m + d ≤ 100000 := by have := HS.out; omega
      have HM2 := Lib.hid hm2
      clear hm2 hle hjl
      go_wp2_with (fail)
      go_roundw
      case rel => exact ⟨j + 1, m + d, by omega, hmd, by go_num, by go_num, Lib.hid HM2.out.symm, HW⟩
      case measure => simp [intOf]; omega
    · obtain rfl : j = n := by omega
      have hall : m = rs.flatten.length := by have := HM.out; rw [List.take_of_length_le (by rw [HL.out]; exact Nat.le_refl _)] at this; exact this
      have HALL := Lib.hid hall
      have hwr := HW.out
      subst hwr
      have HG := Lib.hid (grow_walk m wr hm)
      clear hall HM HW
      go_wp2_with (fail)
      refine HG.out.mono ?_
      rintro e w1 ⟨v, rfl, hrow, hb1⟩
      have HR1 := Lib.hid hrow; have HB1 := Lib.hid hb1
      obtain ⟨a1, c1, rfl⟩ := hrow.slice
      clear hrow hb1
      go_wp2_with (fail)
      go_loopw [6, 8, 27] (fun own _ i w2 => ∃ (k m2 c2 : Nat) (a2 : Option Addr), k ≤ j ∧ m2 ≤ m ∧ i = .int .i64 (k : Int) ∧ own = .slice a2 m2 c2 ∧ Hid (m2 = (rs.take k).flatten.length) ∧ Hid (Row wr.heap.size w2 (.slice a2 m2 c2) (rs.take k).flatten) ∧ Hid (Below wr.heap.size wr w2)) (fun _ _ i _ => j - (intOf i).toNat)
      case atStart => exact ⟨0, 0, c1, a1, Nat.zero_le _, Nat.zero_le _, rfl, rfl, Lib.hid (by simp), HR1, HB1⟩
      case round =>
        rename_i w2
        obtain ⟨k, m2, c2, a2, hk, hm2, rfl, rfl, HM2, HR2, HB2⟩ := hrel
        by_cases hlt2 : k < j
        · have hkl : k < rs.length := by rw [HL.out]; exact hlt2
          obtain ⟨b, o, q, c', rfl, e0, hq⟩ := (HR.out.below HB2.out).get k hkl
          have hm3 : (rs.take (k + 1)).flatten.length = m2 + (rget rs k).length := by rw [rtake rs k hkl, List.length_append, HM2.out]
          have hle := rtake_le rs (k + 1)
          have HT := Lib.hid (rtake rs k hkl)
          generalize rget rs k = row at *
          obtain ⟨d, hd⟩ : ∃ d, row.length = d := ⟨_, rfl⟩
          rw [hd] at e0 hm3
          have hmd : m2 + d ≤ m := by have := HALL.out; omega
          obtain ⟨a3, c3', w3, hrun, hrow3, hg3⟩ := append_row (c := c') HR2.out HM2.out hd.symm hq (by omega) HB2.out.size
          have HM3 := Lib.hid hm3; have HRUN := Lib.hid hrun; have HR3 := Lib.hid hrow3; have HB3 := Lib.hid (HR2.out.grown HB2.out hg3 HB2.out.size)
          clear hm3 hle hkl hrun hrow3 hg3 hq hd
          go_wp2_with (at_builtin; refine wpList_append_made rfl (.tmp 31) (.tmp 32) 22 22 rfl (.slice a2 m2 c2) (.slice q d c') _ rfl rfl HRUN.out ?_)
          go_roundw
          case rel => exact ⟨k + 1, m2 + d, c3', a3, by omega, hmd, by go_num, rfl, Lib.hid HM3.out.symm, Lib.hid (by rw [HT.out]; exact HR3.out), HB3⟩
          case measure => simp [intOf]; omega
        · obtain rfl : k = j := by omega
          have hr := HR2.out
          rw [List.take_of_length_le (by rw [HL.out]; exact Nat.le_refl _)] at hr
          have HR' := Lib.hid hr
          clear hr
          go_wp2_with (fail)
          go_ret
          exact ⟨_, rfl, HR'.out, HB2.out⟩
end Effect
end Go.Proofs.YtabegjpledammaaGreatDoor
namespace Go.Proofs.YtabegjpledammaaGreatDoor
open Go.RowKit Go.Sort Go.Shelf Go.Lib
set_option linter.unusedVariables false
set_option linter.unusedSimpArgs false
namespace Effect

set_option maxRecDepth 100000 in
set_option maxHeartbeats 6400000 in
theorem union_walk (n c : Nat) (p : Option Addr) (rs : List (List At)) (w : World) (hl : rs.length = n) (hn : n ≤ 100000) (hr : RowsAt w p rs) (hs : rs.flatten.length ≤ 100000) (hok : ∀ x ∈ rs.flatten, x.x.size ≤ maxLen) :
    Calls Tryz.prog 64 #[.slice p n c] w fun e w' => ∃ v, e = .returned v ∧ Row w.heap.size w' v (ofA rs.flatten) ∧ Below w.heap.size w w' := by
  have hc := concat_walk n c p rs w hl hn hr hs
  generalize rs.flatten = F at *
  obtain ⟨d, hd⟩ : ∃ d, F.length = d := ⟨_, rfl⟩
  have HC := Lib.hid hc; have HD := Lib.hid hd; have hdn : d ≤ 100000 := by omega
  have HOK := Lib.hid hok
  clear hr hs hok hl hd hc
  go_enter Tryz.func64, Tryz.ntmps64
  go_wp2_with (fail)
  refine HC.out.mono ?_
  rintro e w1 ⟨v, rfl, hr1, hb1⟩
  obtain ⟨a1, c1, rfl⟩ := hr1.slice
  obtain ⟨-, hat⟩ := hr1.at
  rw [HD.out]
  have HO := Lib.hid (of_walk d c1 a1 F w1 HD.out hdn hat HOK.out)
  have HB1 := Lib.hid hb1
  clear hr1 hb1 hat
  go_wp2_with (fail)
  refine HO.out.mono ?_
  rintro e w2 ⟨v, rfl, hr2, hb2⟩
  have HR2 := Lib.hid (own_lower hr2 HB1.out.size); have HB2 := Lib.hid (HB1.out.trans (hb2.mono HB1.out.size))
  clear hr2 hb2
  go_wp2_with (fail)
  go_ret
  exact ⟨_, rfl, HR2.out, HB2.out⟩
/-! ### Are two the same -/
theorem allEq_dec : ∀ (l m : List At), allEq (fun a b => decide (a = b)) l m = decide (l = m) := by
  intro l m
  induction l generalizing m with
  | nil => cases m <;> simp [allEq]
  | cons a l ih => cases m with
    | nil => simp [allEq]
    | cons b m => simp [allEq, ih]
set_option maxHeartbeats 3200000 in
theorem equal_short (n m c d : Nat) (a b : Option Addr) (w : World) (h : n = 0 ∨ m = 0) (hn : n ≤ 1000000) (hm : m ≤ 1000000) : Calls Tryz.prog 62 #[.slice a n c, .slice b m d] w fun e w' => e = .returned (.bool (decide (n = m))) ∧ w' = w := by
  by_cases hnm : n = m
  · obtain rfl : n = 0 := by omega
    subst hnm
    clear h
    go_enter Tryz.func62, Tryz.ntmps62
    go_wp2_with (fail)
    go_loopg [13] 0 (fun g s13 wr => s13 = .int .i64 0 ∧ wr = w)
    case atStart => exact ⟨rfl, rfl⟩
    case round =>
      obtain ⟨rfl, rfl⟩ := hrel
      go_wp2_with (fail)
      go_ret
      exact ⟨ret_bool (by simp), rfl⟩
  · have HNM := Lib.hid hnm
    clear h
    go_enter Tryz.func62, Tryz.ntmps62
    go_wp2_with (fail)
    go_ret
    exact ⟨ret_bool (by rw [decide_eq_false HNM.out]), rfl⟩
theorem len_eq_of {l m : List At} (h : l.length = 0 ∨ m.length = 0) : decide (l.length = m.length) = decide (l = m) := by
  cases l <;> cases m <;> simp_all
theorem equal_walk (n m c d : Nat) (a b : Option Addr) (l k : List At) (w : World) (hl : l.length = n) (hk : k.length = m) (hn : n ≤ 100000) (hm : m ≤ 100000) (ha : AtsAt w a l) (hb : AtsAt w b k) : Calls Tryz.prog 62 #[.slice a n c, .slice b m d] w fun e w' => e = .returned (.bool (decide (l = k))) ∧ Below w.heap.size w w' := by
  subst hl hk
  rcases ha with rfl | ⟨b1, o1, rfl, h1⟩
  · refine (equal_short 0 k.length c d a b w (.inl rfl) (by omega) (by omega)).mono ?_
    rintro e w' ⟨rfl, rfl⟩
    exact ⟨ret_bool (len_eq_of (l := []) (.inl rfl)), Below.refl _ _⟩
  · rcases hb with rfl | ⟨b2, o2, rfl, h2⟩
    · refine (equal_short l.length 0 c d _ b w (.inr rfl) (by omega) (by omega)).mono ?_
      rintro e w' ⟨rfl, rfl⟩
      exact ⟨ret_bool (len_eq_of (m := []) (.inr rfl)), Below.refl _ _⟩
    · have key : ∀ (b o : Nat) (x : List At), (∀ i, i < x.length → w.cell? ⟨b, o + i * 3, none⟩ = some (.int .u8 (aget x i).k) ∧ w.cell? ⟨b, o + i * 3 + 1, none⟩ = some (.int .i64 (aget x i).r) ∧ w.cell? ⟨b, o + i * 3 + 2, none⟩ = some (.string (aget x i).x)) → ∀ j, j < x.length → ∀ i v, (enc x[j]!)[i]? = some v → w.cell? ⟨b, o + j * 3 + i, none⟩ = some v := fun b o x h j hj i v hv => by
        have e : x[j]! = aget x j := by unfold aget; rw [List.getD_eq_getElem?_getD, List.getElem!_eq_getElem?_getD]
        rw [e] at hv
        obtain ⟨c0, c1, c2⟩ := h j hj
        match i, hv with
        | 0, hv => simp [enc] at hv; rw [← hv]; exact c0
        | 1, hv => simp [enc] at hv; rw [← hv]; exact c1
        | 2, hv => simp [enc] at hv; rw [← hv]; exact c2
        | i + 3, hv => simp [enc] at hv
      have hc := AnyQ.slices_Equal Tryz.equalAt 3 Tryz.isAgg69 Tryz.sizeOf69 enc (fun _ => rfl) (fun a b => decide (a = b)) neAt b1 o1 l.length c b2 o2 k.length d l k w (Nat.le_refl _) (Nat.le_refl _) (by omega) (by omega) (key b1 o1 l h1) (key b2 o2 k h2)
      change Calls Tryz.prog 62 _ _ _ at hc
      refine hc.mono ?_
      rintro e w' ⟨rfl, q, rfl⟩
      rw [List.take_length, List.take_length, allEq_dec]
      exact ⟨rfl, ⟨rfl, rfl, rfl, Nat.le_refl _, fun _ _ => rfl⟩⟩
theorem of_le (l : List At) : (ofA l).length ≤ l.length := by
  have key : ∀ (k e : List At), (k.foldl putA e).length ≤ e.length + k.length := fun k => by
    induction k with
    | nil => intro e; simp
    | cons a k ih =>
      intro e
      have h1 := ih (putA e a)
      have h2 : (putA e a).length ≤ e.length + 1 := by
        unfold putA
        split
        · have h3 : ∀ x : List At, (insA a x).length = x.length + 1 := fun x => by
            induction x with
            | nil => rfl
            | cons y x ih2 => unfold insA; split <;> simp [ih2]
          rw [h3]; exact Nat.le_refl _
        · omega
      show ((k.foldl putA (putA e a)).length) ≤ _
      rw [List.length_cons]
      omega
  have := key l []
  simpa [ofA] using this
theorem of_ok {l : List At} {n : Nat} (h : ∀ x ∈ l, x.x.size ≤ n) : ∀ x ∈ ofA l, x.x.size ≤ n := fun x hx => h x ((mem_of l x).1 hx).1
end Effect
end Go.Proofs.YtabegjpledammaaGreatDoor
namespace Go.Proofs.YtabegjpledammaaGreatDoor
open Go.RowKit Go.Sort Go.Shelf Go.Lib
set_option linter.unusedVariables false
set_option linter.unusedSimpArgs false
namespace Effect

/-- A row that is read. -/
structure Rd (w : World) (n : Nat) (a : Option Addr) (l : List At) : Prop where
  len : l.length = n
  at_ : AtsAt w a l
  ok : ∀ x ∈ l, x.x.size ≤ maxLen
theorem Rd.below {w W : World} {n : Nat} {a : Option Addr} {l : List At} (h : Rd w n a l) (hb : Below w.heap.size w W) : Rd W n a l := ⟨h.len, h.at_.below hb, h.ok⟩
theorem Rd.of_row {B n c : Nat} {w : World} {a : Option Addr} {l : List At} (h : Row B w (.slice a n c) l) (hok : ∀ x ∈ l, x.x.size ≤ maxLen) : Rd w n a l := ⟨h.at.1.symm, h.at.2, hok⟩
theorem ofR {n c : Nat} {a : Option Addr} {l : List At} {w : World} (h : Rd w n a l) (hn : n ≤ 100000) : Calls Tryz.prog 63 #[.slice a n c] w fun e w' => ∃ a' m c', e = .returned (.slice a' m c') ∧ m ≤ n ∧ Row w.heap.size w' (.slice a' m c') (ofA l) ∧ Rd w' m a' (ofA l) ∧ Below w.heap.size w w' := by
  refine (of_walk n c a l w h.len hn h.at_ h.ok).mono ?_
  rintro e w' ⟨v, rfl, hr, hb⟩
  obtain ⟨a', c', rfl⟩ := hr.slice
  exact ⟨a', _, c', rfl, by have := of_le l; rw [h.len] at this; exact this, hr, Rd.of_row hr (of_ok h.ok), hb⟩
theorem equalR {n m c d : Nat} {a b : Option Addr} {l k : List At} {w : World} (h1 : Rd w n a l) (h2 : Rd w m b k) (hn : n ≤ 100000) (hm : m ≤ 100000) : Calls Tryz.prog 62 #[.slice a n c, .slice b m d] w fun e w' => e = .returned (.bool (decide (l = k))) ∧ Below w.heap.size w w' :=
  equal_walk n m c d a b l k w h1.len h2.len hn hm h1.at_ h2.at_
set_option maxRecDepth 100000 in
set_option maxHeartbeats 6400000 in
theorem may_walk {n c : Nat} {a : Option Addr} {l : List At} {w : World} (h : Rd w n a l) (hn : n ≤ 100000) : Calls Tryz.prog 58 #[.slice a n c] w fun e w' => e = .returned (.bool (decide (l = ofA l))) ∧ Below w.heap.size w w' := by
  have H := Lib.hid h; have HC := Lib.hid (ofR (c := c) h hn)
  clear h
  go_enter Tryz.func58, Tryz.ntmps58
  go_wp2_with (fail)
  refine HC.out.mono ?_
  rintro e w1 ⟨a1, m1, c1, rfl, hm, -, hr1, hb1⟩
  have HE := Lib.hid (equalR (c := c) (d := c1) (H.out.below hb1) hr1 hn (by omega))
  have HB := Lib.hid hb1
  clear hr1 hb1
  go_wp2_with (fail)
  refine HE.out.mono ?_
  rintro e w2 ⟨rfl, hb2⟩
  have HB2 := Lib.hid (below_then HB.out hb2 HB.out.size)
  clear hb2
  go_wp2_with (fail)
  go_ret
  exact ⟨rfl, HB2.out⟩
end Effect
end Go.Proofs.YtabegjpledammaaGreatDoor
namespace Go.Proofs.YtabegjpledammaaGreatDoor
open Go.RowKit
set_option linter.unusedVariables false
namespace Effect

/-- A number's digits. -/
def digs (n : Int) : ByteArray := ⟨(Lib.itoa n).toArray⟩
theorem bytes_ext {s t : ByteArray} (h : s.data.toList = t.data.toList) : s = t := by
  cases s; cases t; simpa using h
theorem ret_str {a b : ByteArray} (h : a = b) : Ending.returned (.string a) = .returned (.string b) := by rw [h]
/-! ### The program's -/
def NumLaid (w : World) : Prop := Lib.TabIs Tryz.prog w "internal/strconv.uint64pow10" .u64 Lib.pow10Tab
theorem gPow : Tryz.prog.globalNamed "internal/strconv.uint64pow10" = some 1 := by kernel_rfl
theorem NumLaid.below {w W : World} (h : NumLaid w) (hb : Below w.heap.size w W) : NumLaid W := Go.Joins.tab_stays gPow h hb (Nat.le_refl _)
theorem digitsOf_walk (n : Int) (h0 : -9223372036854775808 ≤ n) (h1 : n ≤ 9223372036854775807) (w : World) (hl : NumLaid w) :
    Calls Tryz.prog 54 #[.int .i64 n] w fun e w' => e = .returned (.string (digs n)) ∧ Below w.heap.size w w' := by
  have H0 := Lib.hid h0; have H1 := Lib.hid h1; have HL := Lib.hid hl
  clear h0 h1 hl
  go_enter Tryz.func54, Tryz.ntmps54
  go_wp2_with (fail)
  refine (Tryz.strconv_FormatInt_10 n H0.out H1.out _ HL.out).mono ?_
  rintro e w' ⟨rfl, k, os, rfl⟩
  have hb := Lib.below_grow w.heap.size w (Nat.le_refl _) k os
  have HB := Lib.hid hb; clear hb
  go_wp2
  go_ret
  exact ⟨rfl, HB.out⟩
end Effect
end Go.Proofs.YtabegjpledammaaGreatDoor
