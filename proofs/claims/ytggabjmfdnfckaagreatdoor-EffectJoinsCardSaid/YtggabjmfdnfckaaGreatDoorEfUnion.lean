/- All atoms of rows; whether one is within another one; whether two are the same. -/
import Derived.Test.YtggabjmfdnfckaaGreatDoorEfConcat
namespace Go.Proofs.YtggabjmfdnfckaaGreatDoor
open Go.RowKit Go.Sort Go.Shelf Go.Lib
set_option linter.unusedVariables false
set_option linter.unusedSimpArgs false
namespace Effect

set_option maxRecDepth 100000 in
set_option maxHeartbeats 6400000 in
theorem union_walk (n c : Nat) (p : Option Addr) (rs : List (List At)) (w : World) (hl : rs.length = n) (hn : n ≤ 100000) (hr : RowsAt w p rs) (hs : rs.flatten.length ≤ 100000) (hok : ∀ x ∈ rs.flatten, x.x.size ≤ maxLen) :
    Calls Tryz.prog 9 #[.slice p n c] w fun e w' => ∃ v, e = .returned v ∧ Row w.heap.size w' v (ofA rs.flatten) ∧ Below w.heap.size w w' := by
  have hc := concat_walk n c p rs w hl hn hr hs
  generalize rs.flatten = F at *
  obtain ⟨d, hd⟩ : ∃ d, F.length = d := ⟨_, rfl⟩
  have HC := Lib.hid hc; have HD := Lib.hid hd; have hdn : d ≤ 100000 := by omega
  have HOK := Lib.hid hok
  clear hr hs hok hl hd hc
  go_enter Tryz.func9, Tryz.ntmps9
  go_wp2_with (fail)
  refine HC.out.mono ?_
  rintro e w1 ⟨v, rfl, hr1, hb1⟩
  obtain ⟨a1, c1, rfl⟩ := hr1.slice
  obtain ⟨-, hat⟩ := hr1.at
  rw [HD.out]
  have HO := Lib.hid (of_walk d c1 a1 F w1 HD.out hdn hat HOK.out)
  have HB1 := Lib.hid hb1
  clear hr1 hb1 hat
  go_wp2_with (fail)
  refine HO.out.mono ?_
  rintro e w2 ⟨v, rfl, hr2, hb2⟩
  have HR2 := Lib.hid (own_lower hr2 HB1.out.size); have HB2 := Lib.hid (HB1.out.trans (hb2.mono HB1.out.size))
  clear hr2 hb2
  go_wp2_with (fail)
  go_ret
  exact ⟨_, rfl, HR2.out, HB2.out⟩
/-- Two rows, in a new block. -/
theorem rows_two {W : World} {N : Nat} {a b : Option Addr} {la lb ca cb : Nat} {l m : List At} {ty : TypeId} (h : W.heap[N]? = some (.cells #[.slice a la ca, .slice b lb cb] ty (0, 0))) (h1 : la = l.length) (h2 : lb = m.length) (ha : AtsAt W a l) (hb : AtsAt W b m) : RowsAt W (some ⟨N, 0, none⟩) [l, m] := by
  subst h1 h2
  refine .inr ⟨N, 0, rfl, fun i hi => ?_⟩
  match i, hi with
  | 0, _ => exact ⟨a, ca, by simp [World.cell?, h, rget], ha⟩
  | 1, _ => exact ⟨b, cb, by simp [World.cell?, h, rget], hb⟩
/-! ### Are two the same -/
theorem allEq_dec : ∀ (l m : List At), allEq (fun a b => decide (a = b)) l m = decide (l = m) := by
  intro l m
  induction l generalizing m with
  | nil => cases m <;> simp [allEq]
  | cons a l ih => cases m with
    | nil => simp [allEq]
    | cons b m => simp [allEq, ih]
set_option maxHeartbeats 3200000 in
theorem equal_short (n m c d : Nat) (a b : Option Addr) (w : World) (h : n = 0 ∨ m = 0) (hn : n ≤ 1000000) (hm : m ≤ 1000000) : Calls Tryz.prog 43 #[.slice a n c, .slice b m d] w fun e w' => e = .returned (.bool (decide (n = m))) ∧ w' = w := by
  by_cases hnm : n = m
  · obtain rfl : n = 0 := by omega
    subst hnm
    clear h
    go_enter Tryz.func43, Tryz.ntmps43
    go_wp2_with (fail)
    go_loopg [13] 0 (fun g s13 wr => s13 = .int .i64 0 ∧ wr = w)
    case atStart => exact ⟨rfl, rfl⟩
    case round =>
      obtain ⟨rfl, rfl⟩ := hrel
      go_wp2_with (fail)
      go_ret
      exact ⟨ret_bool (by simp), rfl⟩
  · have HNM := Lib.hid hnm
    clear h
    go_enter Tryz.func43, Tryz.ntmps43
    go_wp2_with (fail)
    go_ret
    exact ⟨ret_bool (by rw [decide_eq_false HNM.out]), rfl⟩
theorem len_eq_of {l m : List At} (h : l.length = 0 ∨ m.length = 0) : decide (l.length = m.length) = decide (l = m) := by
  cases l <;> cases m <;> simp_all
theorem equal_walk (n m c d : Nat) (a b : Option Addr) (l k : List At) (w : World) (hl : l.length = n) (hk : k.length = m) (hn : n ≤ 100000) (hm : m ≤ 100000) (ha : AtsAt w a l) (hb : AtsAt w b k) : Calls Tryz.prog 43 #[.slice a n c, .slice b m d] w fun e w' => e = .returned (.bool (decide (l = k))) ∧ Below w.heap.size w w' := by
  subst hl hk
  rcases ha with rfl | ⟨b1, o1, rfl, h1⟩
  · refine (equal_short 0 k.length c d a b w (.inl rfl) (by omega) (by omega)).mono ?_
    rintro e w' ⟨rfl, rfl⟩
    exact ⟨ret_bool (len_eq_of (l := []) (.inl rfl)), Below.refl _ _⟩
  · rcases hb with rfl | ⟨b2, o2, rfl, h2⟩
    · refine (equal_short l.length 0 c d _ b w (.inr rfl) (by omega) (by omega)).mono ?_
      rintro e w' ⟨rfl, rfl⟩
      exact ⟨ret_bool (len_eq_of (m := []) (.inr rfl)), Below.refl _ _⟩
    · have key : ∀ (b o : Nat) (x : List At), (∀ i, i < x.length → w.cell? ⟨b, o + i * 3, none⟩ = some (.int .u8 (aget x i).k) ∧ w.cell? ⟨b, o + i * 3 + 1, none⟩ = some (.int .i64 (aget x i).r) ∧ w.cell? ⟨b, o + i * 3 + 2, none⟩ = some (.string (aget x i).x)) → ∀ j, j < x.length → ∀ i v, (enc x[j]!)[i]? = some v → w.cell? ⟨b, o + j * 3 + i, none⟩ = some v := fun b o x h j hj i v hv => by
        have e : x[j]! = aget x j := by unfold aget; rw [List.getD_eq_getElem?_getD, List.getElem!_eq_getElem?_getD]
        rw [e] at hv
        obtain ⟨c0, c1, c2⟩ := h j hj
        match i, hv with
        | 0, hv => simp [enc] at hv; rw [← hv]; exact c0
        | 1, hv => simp [enc] at hv; rw [← hv]; exact c1
        | 2, hv => simp [enc] at hv; rw [← hv]; exact c2
        | i + 3, hv => simp [enc] at hv
      have hc := AnyQ.slices_Equal Tryz.equalAt 3 Tryz.isAgg47 Tryz.sizeOf47 enc (fun _ => rfl) (fun a b => decide (a = b)) neAt b1 o1 l.length c b2 o2 k.length d l k w (Nat.le_refl _) (Nat.le_refl _) (by omega) (by omega) (key b1 o1 l h1) (key b2 o2 k h2)
      change Calls Tryz.prog 43 _ _ _ at hc
      refine hc.mono ?_
      rintro e w' ⟨rfl, q, rfl⟩
      rw [List.take_length, List.take_length, allEq_dec]
      exact ⟨rfl, ⟨rfl, rfl, rfl, Nat.le_refl _, fun _ _ => rfl⟩⟩
theorem of_le (l : List At) : (ofA l).length ≤ l.length := by
  have key : ∀ (k e : List At), (k.foldl putA e).length ≤ e.length + k.length := fun k => by
    induction k with
    | nil => intro e; simp
    | cons a k ih =>
      intro e
      have h1 := ih (putA e a)
      have h2 : (putA e a).length ≤ e.length + 1 := by
        unfold putA
        split
        · have h3 : ∀ x : List At, (insA a x).length = x.length + 1 := fun x => by
            induction x with
            | nil => rfl
            | cons y x ih2 => unfold insA; split <;> simp [ih2]
          rw [h3]; exact Nat.le_refl _
        · omega
      show ((k.foldl putA (putA e a)).length) ≤ _
      rw [List.length_cons]
      omega
  have := key l []
  simpa [ofA] using this
theorem of_ok {l : List At} {n : Nat} (h : ∀ x ∈ l, x.x.size ≤ n) : ∀ x ∈ ofA l, x.x.size ≤ n := fun x hx => h x ((mem_of l x).1 hx).1
end Effect
end Go.Proofs.YtggabjmfdnfckaaGreatDoor
