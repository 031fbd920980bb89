/- The walk of EffectParts. -/
import Derived.Test.YtggabjmfdnfckaaDoorEfExns
namespace Go.Proofs.YtggabjmfdnfckaaDoor
open Go.RowKit
set_option linter.unusedVariables false
set_option linter.unusedSimpArgs false
namespace Effect

def leftL (k : List Int) (l : List At) : List At := (ofA l).filter (stayR k)
def goneL (k : List Int) (l : List At) : List At := l.filter fun x => !stayR k x
theorem parts_union (k : List Int) (l : List At) : ofA (leftL k l ++ goneL k l) = ofA l := of_congr fun b hb => by
  unfold leftL goneL
  rw [List.mem_append, List.mem_filter, List.mem_filter, mem_of]
  cases stayR k b <;> simp [hb]
theorem parts_within (k : List Int) (l : List At) : withinB (leftL k l) l = true := (within_iff _ _).2 fun x hx _ => ((mem_of _ _).1 (List.mem_filter.1 hx).1).1
theorem stayE_own {u : List At} {x : At} (hx : x ∈ u) : stayE (exnsOf u) x = decide (x.k ≠ 3) := by
  unfold stayE
  by_cases h : x.k = 3
  · have hm : x.x ∈ exnsOf u := List.mem_map.2 ⟨x, List.mem_filter.2 ⟨hx, decide_eq_true h⟩, rfl⟩
    rw [decide_eq_true h, decide_eq_false (fun e => e h), (Lib.containsS_iff _ _).2 hm]; rfl
  · rw [decide_eq_false h, decide_eq_true (show x.k ≠ 3 from h)]; rfl
def noExn (u : List At) : List At := u.filter (stayE (exnsOf u))
theorem mem_noExn (u : List At) (x : At) : x ∈ noExn u ↔ x ∈ u ∧ x.k ≠ 3 := by
  unfold noExn
  rw [List.mem_filter]
  constructor
  · rintro ⟨h1, h2⟩
    rw [stayE_own h1] at h2
    exact ⟨h1, of_decide_eq_true h2⟩
  · rintro ⟨h1, h2⟩
    refine ⟨h1, ?_⟩
    rw [stayE_own h1]
    exact decide_eq_true h2
theorem parts_same (k : List Int) (l : List At) : ofA (noExn (ofA (leftL k l))) = ofA (leftL k (noExn (ofA l))) := of_congr fun b hb => by
  unfold leftL
  rw [mem_noExn, mem_of, List.mem_filter, List.mem_filter, mem_of, mem_of, mem_noExn, mem_of]
  constructor
  · rintro ⟨⟨⟨⟨h1, _⟩, h2⟩, _⟩, h3⟩
    exact ⟨⟨⟨⟨h1, hb⟩, h3⟩, hb⟩, h2⟩
  · rintro ⟨⟨⟨⟨h1, _⟩, h3⟩, _⟩, h2⟩
    exact ⟨⟨⟨⟨h1, hb⟩, h2⟩, hb⟩, h3⟩
theorem exnsR {n c : Nat} {a : Option Addr} {l : List At} {w W : World} (h : Rd w n a l) (hn : n ≤ 10000) (ty : TypeId) (hW : W = w.alloc (.cells #[.slice a n c] ty)) : Calls Tryd.prog 27 #[.slice (some ⟨w.heap.size, 0, none⟩) 1 1] W fun e w' => ∃ a' m c', e = .returned (.slice a' m c') ∧ m ≤ 10000 ∧ RdS w' m a' (exnsOf (ofA l)) ∧ Below w.heap.size w w' := by
  subst hW
  have he : [l].flatten = l := by simp
  refine (exns_walk (n := 1) (c := 1) (p := some ⟨w.heap.size, 0, none⟩) (rs := [l]) (w := w.alloc (.cells #[.slice a n c] ty)) rfl (by omega) (rows_one (heap_alloc_new w _) h.len.symm (h.at_.below (al_new _))) (by rw [he, h.len]; exact hn) (by rw [he]; exact h.ok)).mono ?_
  rintro e w1 ⟨a1, m, c1, rfl, hm, ht, hb1⟩
  rw [he] at ht
  exact ⟨a1, m, c1, rfl, hm, RdS.of_txs ht, below_row (Below.refl _ _) hb1 (Nat.le_refl _)⟩
set_option maxRecDepth 100000 in
set_option maxHeartbeats 12800000 in
theorem effectParts_walk (a b : Option Addr) (n nr c cr : Nat) (l : List At) (k : List Int) (w : World) (h : Rd w n a l) (hk : RdI w nr b k) (hn : n ≤ maxLen) (hnr : nr ≤ maxLen) (hl : NumLaid w) : Calls Tryd.prog 6 #[.slice a n c, .slice b nr cr] w fun e w' => e = .returned (.bool true) ∧ Below w.heap.size w w' := by
  obtain ⟨i0, hi, hz0, hz2, hz3⟩ := info_parts
  have HI := Lib.hid hi; have HZ0 := Lib.hid hz0; have HZ2 := Lib.hid hz2; have HZ3 := Lib.hid hz3
  have H := Lib.hid h; have HKK := Lib.hid hk; have HL := Lib.hid hl
  have HG1 := Lib.hid (great_walk (c := c) h hn)
  have HAW := Lib.hid (awake_walk w hl)
  unfold maxLen at hnr
  clear hi hz0 hz2 hz3 h hk hl
  cases hg1 : greatB l with
  | true =>
    rw [hg1] at HG1
    clear hg1
    go_enter Tryd.func6, Tryd.ntmps6
    go_wp2_with (fail)
    refine HG1.out.mono ?_
    rintro e w1 ⟨rfl, rfl⟩
    go_wp2_with (fail)
    refine HAW.out.mono ?_
    rintro e w2 ⟨rfl, hb2⟩
    have HB2 := Lib.hid hb2
    clear hb2
    go_wp2_with (fail)
    go_ret
    exact ⟨rfl, HB2.out⟩
  | false =>
    have hn100 : n ≤ 100 := by have := (great_no hg1).1; rw [H.out.len] at this; exact this
    rw [hg1] at HG1
    clear hg1 hn
    by_cases hf1 : 100 < nr
    · clear hn100
      go_enter Tryd.func6, Tryd.ntmps6
      go_wp2_with (fail)
      refine HG1.out.mono ?_
      rintro e w1 ⟨rfl, rfl⟩
      go_wp2_with (fail)
      refine HAW.out.mono ?_
      rintro e w2 ⟨rfl, hb2⟩
      have HB2 := Lib.hid hb2
      clear hb2
      go_wp2_with (fail)
      go_ret
      exact ⟨rfl, HB2.out⟩
    · have HW := Lib.hid (withoutR (c := c) (d := cr) H.out HKK.out (by omega) (by omega))
      go_enter Tryd.func6, Tryd.ntmps6
      go_wp2_with (fail)
      refine HG1.out.mono ?_
      rintro e w1 ⟨rfl, rfl⟩
      go_wp2_with (fail)
      refine HW.out.mono ?_
      rintro e w2 ⟨aL, mL, cL, rfl, hmL, hrL, hb2⟩
      have HRL := Lib.hid (show Rd w2 mL aL (leftL k l) from hrL); have HB2 := Lib.hid hb2
      clear hrL hb2
      go_wp2_with (fail)
      go_loopw [6, 7] (fun own i wr => ∃ (j m c1 : Nat) (a1 : Option Addr), j ≤ n ∧ m ≤ j ∧ i = .int .i64 (j : Int) ∧ own = .slice a1 m c1 ∧ Hid (m = (goneL k (l.take j)).length) ∧ Hid (Row w2.heap.size wr (.slice a1 m c1) (goneL k (l.take j))) ∧ Hid (Below w2.heap.size w2 wr)) (fun _ i _ => n - (intOf i).toNat)
      case atStart => exact ⟨0, 0, 0, some ⟨w2.heap.size, 0, none⟩, Nat.zero_le _, Nat.le_refl _, rfl, rfl, Lib.hid (by simp [goneL]), Lib.hid (by simp only [goneL, List.take_zero, List.filter_nil]; exact row_new (Nat.le_refl _)), Lib.hid (al_new _)⟩
      case round =>
        obtain ⟨j, m, c1, a1, hj, hmj, rfl, rfl, HM, HR, HS⟩ := hrel
        by_cases hlt : j < n
        · have hjl : j < l.length := by rw [H.out.len]; exact hlt
          obtain ⟨b1, o, rfl, e0, e1, e2⟩ := ((H.out.below HB2.out).below HS.out).at_.get j hjl
          have hx := H.out.ok _ (aget_mem hjl)
          have htk := at_take l j hjl
          generalize aget l j = x at *
          have HT := Lib.hid htk
          have HC := Lib.hid (refInts_walk (c := cr) ((HKK.out.below HB2.out).below HS.out) (by omega) x.r)
          have hstay : (decide (x.k ≠ 3) && k.contains x.r) = !stayR k x := by unfold stayR; simp
          have HST := Lib.hid hstay
          clear htk hjl hx hstay
          by_cases hk3 : x.k = 3
          · have HP := Lib.hid (show stayR k x = true by have := HST.out; rw [show decide (x.k ≠ 3) = false from decide_eq_false fun e => e hk3] at this; simpa using this)
            have hkk : (x.k == 3) = true := by simpa using hk3
            have hkn : (x.k != 3) = false := by rw [bne, hkk]; rfl
            clear hk3
            go_wp2_with (fail)
            go_roundw
            case rel => exact ⟨j + 1, m, c1, a1, by omega, by omega, by go_num, rfl, Lib.hid (by unfold goneL; rw [HT.out, filter_step, HP.out]; simpa [goneL] using HM.out), Lib.hid (by unfold goneL; rw [HT.out, filter_step, HP.out]; simpa [goneL] using HR.out), HS⟩
            case measure => simp [intOf]; omega
          · have hkk : (x.k == 3) = false := by simpa using hk3
            have hkn : (x.k != 3) = true := by rw [bne, hkk]; rfl
            have hcs : k.contains x.r = !stayR k x := by rw [← HST.out, show decide (x.k ≠ 3) = true from decide_eq_true hk3]; simp
            rw [hcs] at HC
            clear hk3 hcs
            go_wp2_with (fail)
            refine HC.out.mono ?_
            rintro e w3 ⟨rfl, rfl⟩
            cases hp : stayR k x
            · have HP := Lib.hid hp
              clear hp
              simp only [Bool.not_false, Bool.not_true]
              go_wp2_with (at_builtin; refine wpList_append_own_at _ rfl (.tmp 41) (.tmp 46) 22 rfl w2.heap.size 27 i0 _ 3 32 Tryd.underlying22 HI.out HZ0.out HZ2.out HZ3.out rfl (by omega) (.slice a1 m c1) m (flat (goneL k (l.take j))) rfl (HR.out.own HM.out (al_new _)) _ 1 1 (enc x) rfl rfl (new_atom rfl) (enc_one x) (by unfold maxLen; omega) (by omega) (by have := HS.out.size; simp; omega) ?_; intro v' w4 hown hgr hnil hat; obtain ⟨a3, c3', rfl, -, -⟩ := own_slice hown; have HR3 := Lib.hid (Row.push (W := w2) (c1 := 0) (a1 := none) HM.out hown); have HS3 := Lib.hid ((below_then HS.out (al_new _) HS.out.size).grown hgr (by have := HS.out.size; simp; omega) fun g hg => (HR.out.lt g hg).1); clear hown hgr hnil hat)
              go_roundw
              case rel => exact ⟨j + 1, m + 1, c3', a3, by omega, by omega, by go_num, rfl, Lib.hid (by unfold goneL; rw [HT.out, filter_step, HP.out, List.length_append, HM.out]; rfl), Lib.hid (by unfold goneL; rw [HT.out, filter_step, HP.out]; exact HR3.out), HS3⟩
              case measure => simp [intOf]; omega
            · have HP := Lib.hid hp
              clear hp
              simp only [Bool.not_false, Bool.not_true]
              go_wp2_with (fail)
              go_roundw
              case rel => exact ⟨j + 1, m, c1, a1, by omega, by omega, by go_num, rfl, Lib.hid (by unfold goneL; rw [HT.out, filter_step, HP.out]; simpa [goneL] using HM.out), Lib.hid (by unfold goneL; rw [HT.out, filter_step, HP.out]; simpa [goneL] using HR.out), HS⟩
              case measure => simp [intOf]; omega
        · obtain rfl : j = n := by omega
          have hr := HR.out
          rw [List.take_of_length_le (by rw [H.out.len]; exact Nat.le_refl _)] at hr
          have hrd := Rd.of_row hr fun x hx => H.out.ok x (List.mem_filter.1 hx).1
          have HB3 := Lib.hid (below_then HB2.out HS.out HB2.out.size)
          have HL3 := Lib.hid (HRL.out.below HS.out)
          have HU := Lib.hid fun W ty => unionR (c := cL) (d := c1) (W := W) HL3.out hrd (by omega) (by omega) ty
          clear hr hrd HR HS
          go_wp2_with (fail)
          refine (HU.out _ _ rfl).mono ?_
          rintro e w4 ⟨au, u, cu, rfl, hu, hru, hb4⟩
          have HB4 := Lib.hid (below_then HB3.out hb4 HB3.out.size); have HL4 := Lib.hid (HL3.out.below hb4); have HRU := Lib.hid hru
          have HO := Lib.hid (ofR (c := c) (H.out.below HB4.out) (by omega))
          clear hru hb4
          go_wp2_with (fail)
          refine HO.out.mono ?_
          rintro e w5 ⟨ao, mo, co, rfl, hmo, -, hro, hb5⟩
          have HB5 := Lib.hid (below_then HB4.out hb5 HB4.out.size); have HL5 := Lib.hid (HL4.out.below hb5)
          have HE := Lib.hid (refEqual_walk (c := cu) (d := co) (HRU.out.below hb5) hro (by omega) (by omega))
          rw [decide_eq_true (show ofA (leftL k l ++ goneL k l) = ofA l from parts_union k l)] at HE
          clear hro hb5
          go_wp2_with (fail)
          refine HE.out.mono ?_
          rintro e w6 ⟨rfl, hb6⟩
          have HB6 := Lib.hid (below_then HB5.out hb6 HB5.out.size); have HL6 := Lib.hid (HL5.out.below hb6)
          have HIN := Lib.hid (within_walk (c := cL) (d := c) HL6.out (H.out.below HB6.out) (by omega) (by omega))
          rw [within_len, show withinB (leftL k l) l = true from parts_within k l] at HIN
          clear hb6
          go_wp2_with (fail)
          refine HIN.out.mono ?_
          rintro e w7 ⟨rfl, hb7⟩
          have HB7 := Lib.hid (below_then HB6.out hb7 HB6.out.size); have HL7 := Lib.hid (HL6.out.below hb7)
          have HX := Lib.hid fun W ty => exnsR (c := cL) (W := W) HL7.out (by omega) ty
          clear hb7
          go_wp2_with (fail)
          refine (HX.out _ _ rfl).mono ?_
          rintro e w8 ⟨ax, mx, cx, rfl, hmx, hrx, hb8⟩
          have HB8 := Lib.hid (below_then HB7.out hb8 HB7.out.size); have HL8 := Lib.hid (HL7.out.below hb8)
          have HH := Lib.hid (handledR (c := cL) (d := cx) HL8.out hrx (by omega) (by omega))
          clear hrx hb8
          go_wp2_with (fail)
          refine HH.out.mono ?_
          rintro e w9 ⟨ah, mh, ch, rfl, hmh, hrh, hb9⟩
          have HB9 := Lib.hid (below_then HB8.out hb9 HB8.out.size)
          have HRH := Lib.hid (show Rd w9 mh ah (noExn (ofA (leftL k l))) from hrh)
          have HX2 := Lib.hid fun W ty => exnsR (c := c) (W := W) (H.out.below HB9.out) (by omega) ty
          clear hrh hb9
          go_wp2_with (fail)
          refine (HX2.out _ _ rfl).mono ?_
          rintro e w10 ⟨ay, my, cy, rfl, hmy, hry, hb10⟩
          have HB10 := Lib.hid (below_then HB9.out hb10 HB9.out.size); have HRH10 := Lib.hid (HRH.out.below hb10)
          have HH2 := Lib.hid (handledR (c := c) (d := cy) (H.out.below HB10.out) hry (by omega) (by omega))
          clear hry hb10
          go_wp2_with (fail)
          refine HH2.out.mono ?_
          rintro e w11 ⟨ai, mi, ci, rfl, hmi, hri, hb11⟩
          have HB11 := Lib.hid (below_then HB10.out hb11 HB10.out.size); have HRH11 := Lib.hid (HRH10.out.below hb11)
          have HW2 := Lib.hid (withoutR (c := ci) (d := cr) (show Rd w11 mi ai (noExn (ofA l)) from hri) (HKK.out.below HB11.out) (by omega) (by omega))
          clear hri hb11
          go_wp2_with (fail)
          refine HW2.out.mono ?_
          rintro e w12 ⟨az, mz, cz, rfl, hmz, hrz, hb12⟩
          have HB12 := Lib.hid (below_then HB11.out hb12 HB11.out.size)
          have HSM := Lib.hid (same_walk (c := ch) (d := cz) (HRH11.out.below hb12) (show Rd w12 mz az (leftL k (noExn (ofA l))) from hrz) (by omega) (by omega))
          rw [decide_eq_true (parts_same k l)] at HSM
          clear hrz hb12
          go_wp2_with (fail)
          refine HSM.out.mono ?_
          rintro e w13 ⟨rfl, hb13⟩
          have HB13 := Lib.hid (below_then HB12.out hb13 HB12.out.size)
          have HAW2 := Lib.hid (awake_walk w13 (HL.out.below HB13.out))
          clear hb13
          go_wp2_with (fail)
          refine HAW2.out.mono ?_
          rintro e w14 ⟨rfl, hb14⟩
          have HB14 := Lib.hid (below_then HB13.out hb14 HB13.out.size)
          clear hb14
          go_wp2_with (fail)
          go_ret
          exact ⟨rfl, HB14.out⟩
end Effect
end Go.Proofs.YtggabjmfdnfckaaDoor
