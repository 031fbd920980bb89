/- The walk of layer 3's statement on blanks. -/
import Derived.Test.YtklibniadcpjhaaDoorTokenLongW
import Derived.Test.YtklibniadcpjhaaDoorTokenPlacesW
import Derived.Laws.AppendOwnNone
import Derived.Deep.QuietTactic
import Derived.BigQuiet
import Derived.IntWalk
namespace Go.Proofs.YtklibniadcpjhaaDoor
open Go.RowKit
set_option linter.unusedVariables false
namespace Token
open Chars (ret_i64 ret_bool ret_u8 cls el isin run spanI BytesAt Bytes bytes_new below_draws)
open Words (KwLaid NumLaid Laid2)

def sh (b : Nat) (t : Tok) : Tok := ⟨t.k, t.s, t.a + b⟩
def shR (b : Nat) : Nat ⊕ List Tok → Nat ⊕ List Tok
  | .inl p => .inl (p + b)
  | .inr l => .inr (l.map (sh b))
theorem shR_pre (b : Nat) (ts : List Tok) (r : Nat ⊕ List Tok) : shR b (pre ts r) = pre (ts.map (sh b)) (shR b r) := by
  cases r <;> simp [shR, pre]
theorem lex_shift (b : Nat) : ∀ (n : Nat) (xs : List Int) (a : Nat), xs.length ≤ n → lex xs (a + b) = shR b (lex xs a)
  | 0, xs, a, hn => by
    have : xs = [] := List.length_eq_zero_iff.1 (by omega)
    subst this
    rfl
  | n + 1, xs, a, hn => by
    by_cases h0 : xs = []
    · subst h0; rfl
    have hl : 0 < xs.length := List.length_pos_iff.2 h0
    by_cases hc : cls (el xs 0) = 1
    · rw [lex_blank xs _ h0 hc, lex_blank xs _ h0 hc, show a + b + 1 = a + 1 + b from by omega]
      exact lex_shift b n _ _ (by rw [List.length_drop]; omega)
    by_cases hk : pieceK xs = 0
    · rw [lex_bad xs _ h0 hc hk, lex_bad xs _ h0 hc hk]; rfl
    have hp := pieceN_pos xs h0
    rw [lex_tok xs _ h0 hk, lex_tok xs _ h0 hk, shR_pre, show a + b + pieceN xs = a + pieceN xs + b from by omega, lex_shift b n _ _ (by rw [List.length_drop]; omega)]
    rfl
theorem lex_ahead (p : Nat) : ∀ (xs : List Int) (a : Nat), lex (List.replicate p 32 ++ xs) a = lex xs (a + p) := by
  induction p with
  | zero => intro xs a; rfl
  | succ p ih =>
    intro xs a
    have h32 : cls (el (32 :: (List.replicate p 32 ++ xs)) 0) = 1 := by show cls 32 = 1; decide
    rw [List.replicate_succ, List.cons_append, lex_blank (32 :: (List.replicate p 32 ++ xs)) _ (by simp) h32, List.drop_one, List.tail_cons, ih]
    congr 1
    omega
theorem lex_behind (zs : List Int) (hz : ∀ z ∈ zs, cls z = 1) : ∀ (n : Nat) (xs : List Int) (a : Nat), xs.length ≤ n → lex (xs ++ zs) a = lex xs a
  | 0, xs, a, hn => by
    have : xs = [] := List.length_eq_zero_iff.1 (by omega)
    subst this
    exact lex_blanks zs a hz
  | n + 1, xs, a, hn => by
    by_cases h0 : xs = []
    · subst h0; exact lex_blanks zs a hz
    have hl : 0 < xs.length := List.length_pos_iff.2 h0
    have hne : xs ++ zs ≠ [] := by simp [h0]
    have hel := el_append xs zs 0 hl
    have hed : Edge zs := by
      cases zs with
      | nil => exact .inl rfl
      | cons z r => exact .inr (hz z (by simp))
    obtain ⟨hpn, hpk⟩ := piece_edge xs zs h0 hed
    have hp := pieceN_pos xs h0
    by_cases hc : cls (el xs 0) = 1
    · rw [lex_blank xs _ h0 hc, lex_blank _ _ hne (by rw [hel]; exact hc), List.drop_append_of_le_length (by omega)]
      exact lex_behind zs hz n _ _ (by rw [List.length_drop]; omega)
    by_cases hk : pieceK xs = 0
    · rw [lex_bad xs _ h0 hc hk, lex_bad _ _ hne (by rw [hel]; exact hc) (by rw [hpk]; exact hk)]
    rw [lex_tok xs _ h0 hk, lex_tok _ _ hne (by rw [hpk]; exact hk), hpn, List.drop_append_of_le_length hp.2, lex_behind zs hz n _ _ (by rw [List.length_drop]; omega)]
    have : tokAt (xs ++ zs) a = tokAt xs a := by
      unfold tokAt
      rw [hpk, hpn, List.take_append_of_le_length hp.2]
    rw [this]
theorem lex_around (p q : Nat) (xs : List Int) : lex (List.replicate p 32 ++ xs ++ List.replicate q 10) 0 = shR p (lex xs 0) := by
  rw [lex_behind (List.replicate q 10) (fun z hz => by rw [List.eq_of_mem_replicate hz]; decide) _ _ _ (Nat.le_refl _), lex_ahead, lex_shift p _ xs 0 (Nat.le_refl _)]
theorem tel_map (b : Nat) (ts : List Tok) (i : Nat) (h : i < ts.length) : tel (ts.map (sh b)) i = sh b (tel ts i) := by
  unfold tel
  rw [List.getD_eq_getElem?_getD, List.getD_eq_getElem?_getD, List.getElem?_map, List.getElem?_eq_getElem h]
  rfl
theorem placed_kind : ∀ (ts : List Tok) (xs : List Int) (a : Nat), Placed xs a ts → ∀ i, i < ts.length → 0 ≤ (tel ts i).k ∧ (tel ts i).k ≤ 5
  | [], _, _, _, i, h => by simp at h
  | t :: ts, xs, a, ⟨j, _, _, _, h4, h5⟩, 0, _ => by
    have e : (tel (t :: ts) 0).k = pieceK (xs.drop j) := by
      show t.k = _
      rw [h4]; rfl
    rw [e]
    exact pieceK_range _
  | t :: ts, xs, a, ⟨j, _, _, _, _, h5⟩, i + 1, h => by
    rw [tel_cons]
    exact placed_kind ts _ _ h5 i (by simpa using h)
theorem lex_kind {xs : List Int} {a : Nat} {ts : List Tok} (h : lex xs a = .inr ts) (i : Nat) (hi : i < ts.length) : 0 ≤ (tel ts i).k ∧ (tel ts i).k ≤ 5 := placed_kind ts xs a (lex_placed _ xs a ts (Nat.le_refl _) h) i hi

theorem placed_a : ∀ (ts : List Tok) (xs : List Int) (a : Nat), Placed xs a ts → ∀ i, i < ts.length → (tel ts i).a ≤ a + xs.length
  | [], _, _, _, i, h => by simp at h
  | t :: ts, xs, a, ⟨j, _, h2, _, h4, h5⟩, 0, _ => by
    have e : (tel (t :: ts) 0).a = a + j := by
      show t.a = _
      rw [h4]; rfl
    have := List.length_pos_iff.2 h2
    rw [List.length_drop] at this
    omega
  | t :: ts, xs, a, ⟨j, _, h2, _, _, h5⟩, i + 1, h => by
    have ih := placed_a ts _ _ h5 i (by simpa using h)
    have hp := pieceN_pos _ h2
    rw [List.length_drop] at hp
    rw [List.length_drop, List.length_drop] at ih
    rw [tel_cons]
    omega
theorem lex_a {xs : List Int} {ts : List Tok} (h : lex xs 0 = .inr ts) (i : Nat) (hi : i < ts.length) : (tel ts i).a ≤ xs.length := by
  have := placed_a ts xs 0 (lex_placed _ xs 0 ts (Nat.le_refl _) h) i hi
  omega

theorem lex_inl : ∀ (n : Nat) (xs : List Int) (a p : Nat), xs.length ≤ n → lex xs a = .inl p → p ≤ a + xs.length
  | 0, xs, a, p, hn, h => by
    have : xs = [] := List.length_eq_zero_iff.1 (by omega)
    subst this
    rw [lex_nil] at h; cases h
  | n + 1, xs, a, p, hn, h => by
    by_cases h0 : xs = []
    · subst h0; rw [lex_nil] at h; cases h
    have hl : 0 < xs.length := List.length_pos_iff.2 h0
    by_cases hc : cls (el xs 0) = 1
    · rw [lex_blank xs _ h0 hc] at h
      have := lex_inl n _ _ p (by rw [List.length_drop]; omega) h
      rw [List.length_drop] at this
      omega
    by_cases hk : pieceK xs = 0
    · rw [lex_bad xs _ h0 hc hk] at h
      injection h with h
      omega
    have hp := pieceN_pos xs h0
    rw [lex_tok xs _ h0 hk] at h
    cases hr : lex (xs.drop (pieceN xs)) (a + pieceN xs) with
    | inl q =>
      rw [hr] at h
      injection h with h
      have := lex_inl n _ _ q (by rw [List.length_drop]; omega) hr
      rw [List.length_drop] at this
      omega
    | inr us => rw [hr] at h; cases h

def vals (zs : List Int) : List Value := zs.map (Value.int .u8)
theorem vals_append (xs ys : List Int) : vals (xs ++ ys) = vals xs ++ vals ys := by simp [vals]
theorem own_bytes {w : World} {B e : Nat} {v : Value} {n : Nat} {zs : List Int} (h : w.ownsRow B e 1 v n (vals zs)) (hn : zs.length = n) (hz : Bytes zs) : ∃ p c, v = .slice p n c ∧ BytesIn w p n c zs := by
  rcases h.2 with ⟨rfl, h0⟩ | ⟨g, cap, cur, rfl, _, _, hnc, hcm, _, _⟩
  · subst h0
    exact ⟨none, 0, rfl, hn, Nat.le_refl _, by unfold maxLen; omega, .inl (List.length_eq_zero_iff.1 hn), hz⟩
  · refine ⟨_, cap, rfl, hn, hnc, hcm, .inr ⟨g, 0, rfl, fun i hi => ?_⟩, hz⟩
    rw [Nat.zero_add, h.cellAt i (by omega)]
    unfold vals
    rw [List.getElem?_map, List.getD_eq_getElem?_getD, List.getElem?_eq_getElem hi]
    rfl

theorem one_new (w : World) (x : Value) (t : TypeId) : ∀ j u, [x][j]? = some u → (w.alloc (.cells #[x] t)).cell? ((⟨w.heap.size, 0, none⟩ : Addr).add j) = some u := by
  intro j u hj
  match j, hj with
  | 0, hj => simp at hj; subst hj; simp [Addr.add]
  | (j + 1), hj => simp at hj
theorem vals_snoc (k : Nat) (x : Int) : vals (List.replicate k x) ++ [.int .u8 x] = vals (List.replicate (k + 1) x) := by
  rw [List.replicate_succ', vals_append]; rfl
theorem vals_len (zs : List Int) : (vals zs).length = zs.length := by simp [vals]
theorem bytes_append {xs ys : List Int} (h : Bytes xs) (k : Bytes ys) : Bytes (xs ++ ys) := fun x hx => by
  rcases List.mem_append.1 hx with hx | hx
  · exact h x hx
  · exact k x hx
theorem bytes_rep (n : Nat) (x : Int) (h0 : 0 ≤ x) (h1 : x ≤ 255) : Bytes (List.replicate n x) := fun y hy => by rw [List.eq_of_mem_replicate hy]; exact ⟨h0, h1⟩
theorem oneCell_byte (x : Int) : ∀ u ∈ [Value.int .u8 x], u.oneCell' = true := by intro u hu; simp at hu; subst hu; rfl
theorem oneCell_vals (zs : List Int) : ∀ u ∈ vals zs, u.oneCell' = true := by
  intro u hu
  unfold vals at hu
  obtain ⟨x, _, rfl⟩ := List.mem_map.1 hu
  rfl
/-- The bytes that came in, as cells at an address; nothing is asked of nil. -/
theorem src_cells {w : World} {p : Option Addr} {n d : Nat} {xs : List Int} (h : BytesIn w p n d xs) (hp : p = none → n = 0 ∧ d = 0) :
    (p = none ∧ n = 0 ∧ d = 0 ∧ xs = []) ∨ ∃ ad, p = some ad ∧ ∀ j u, (vals xs)[j]? = some u → w.cell? (ad.add j) = some u := by
  rcases p with _ | ad
  · obtain ⟨h1, h2⟩ := hp rfl
    exact .inl ⟨rfl, h1, h2, List.length_eq_zero_iff.1 (by rw [h.1, h1])⟩
  · refine .inr ⟨ad, rfl, fun j u hu => ?_⟩
    rcases h.2.2.2.1 with rfl | ⟨b, o, he, hc⟩
    · simp [vals] at hu
    · injection he with he
      subst he
      have hj : j < xs.length := by
        rcases Nat.lt_or_ge j xs.length with h | h
        · exact h
        · rw [List.getElem?_eq_none (by rw [vals_len]; exact h)] at hu; cases hu
      have e : (⟨b, o, none⟩ : Addr).add j = ⟨b, o + j, none⟩ := by unfold Addr.add; split <;> simp_all
      rw [e, hc j hj]
      unfold vals at hu
      rw [List.getElem?_map, List.getElem?_eq_getElem hj] at hu
      rw [List.getD_eq_getElem?_getD, List.getElem?_eq_getElem hj]
      exact hu

/-- 'append(x, src...)', x the call's own, src whatever came in: nil or not. -/
theorem append_src {P : Program} {w : World} {ops : Array Oper} {rest : List Oper} {o : Oper} {a : Act} {Q : Exit → Act → World → Prop} (hgd : o.guard = none) (s x : Operand) (t : TypeId)
    (ho : o.op = .call { callee := .builtin .append, args := #[s, x], argTypes := #[t, t] })
    (base : Nat) (e : TypeId) (i : TypeInfo) (z : Value) (bytes : Nat) (ht : P.underlying t = some (.slice e)) (hi : P.info? e = some i) (hz : i.zero = some z)
    (hsize : i.size = 1) (hby : i.bytes = bytes) (hzs : z.cells.size = 1)
    (v : Value) (n : Nat) (xs : List Value) (hs : a.eval s = v) (hown : w.ownsRow base e 1 v n xs)
    (p : Option Addr) (m c : Nat) (zs : List Int) (hx : a.eval x = .slice p m c) (hl : zs.length = m)
    (hsrc : (p = none ∧ m = 0 ∧ c = 0 ∧ zs = []) ∨ ∃ ad, p = some ad ∧ ∀ j u, (vals zs)[j]? = some u → w.cell? (ad.add j) = some u)
    (h63 : n + m ≤ maxLen) (hbytes : (n + m) * bytes ≤ 140737488355328) (hbase : base ≤ w.heap.size)
    (h : ∀ v' w', w'.ownsRow base e 1 v' (n + m) (xs ++ vals zs) → w.grownBy w' v.ownBlock → wpList P ops Q rest (a.put o.dst v') w') : wpList P ops Q (o :: rest) a w := by
  rcases hsrc with ⟨rfl, rfl, rfl, rfl⟩ | ⟨ad, rfl, hc⟩
  · refine wpList_append_own_none hgd s x t ho base e i 1 ht hi v n xs hs hown hx (h v w ?_ (World.grownBy.refl w _))
    rw [Nat.add_zero, show vals [] = [] from rfl, List.append_nil]
    exact hown
  · exact wpList_append_own w hgd s x t ho base e i z 1 bytes ht hi hz hsize hby hzs (by decide) v n xs hs hown ad m c (vals zs) hx (by rw [vals_len, hl, Nat.mul_one]) hc (oneCell_vals zs) h63 hbytes hbase (fun v' w' h1 h2 _ => h v' w' h1 h2)

set_option maxRecDepth 100000 in
set_option maxHeartbeats 12800000 in
theorem tokenBlanks_walk (p : Option Addr) (n d : Nat) (xs : List Int) (ah be : Int) (w : World) (hb : BytesIn w p n d xs) (hpn : p = none → n = 0 ∧ d = 0) (ha0 : 0 ≤ ah) (ha1 : ah ≤ 255) (hb0 : 0 ≤ be) (hb1 : be ≤ 255) (hl : Laid2 w) :
    Calls Tryd.prog 7 #[.slice p n d, .int .u8 ah, .int .u8 be] w fun e w' => e = .returned (.bool true) ∧ Below w.heap.size w w' := by
  have hnl := hb.len
  have HX := Lib.hid hb.1
  have HB := Lib.hid hb; have HL := Lib.hid hl; have HPN := Lib.hid hpn
  clear hb hl hpn
  by_cases hbig : 1000 < n
  · go_enter Tryd.func7, Tryd.ntmps7
    go_wp2_with (fail)
    refine (awake_walk _ HL.out).mono ?_
    rintro e w1 ⟨rfl, hb⟩
    have HB1 := Lib.hid hb; clear hb
    go_wp2
    go_ret
    exact ⟨rfl, HB1.out⟩
  by_cases hba : 100 < ah
  · go_enter Tryd.func7, Tryd.ntmps7
    go_wp2_with (fail)
    refine (awake_walk _ HL.out).mono ?_
    rintro e w1 ⟨rfl, hb⟩
    have HB1 := Lib.hid hb; clear hb
    go_wp2
    go_ret
    exact ⟨rfl, HB1.out⟩
  by_cases hbb : 100 < be
  · go_enter Tryd.func7, Tryd.ntmps7
    go_wp2_with (fail)
    refine (awake_walk _ HL.out).mono ?_
    rintro e w1 ⟨rfl, hb⟩
    have HB1 := Lib.hid hb; clear hb
    go_wp2
    go_ret
    exact ⟨rfl, HB1.out⟩
  obtain ⟨a, rfl⟩ := Int.eq_ofNat_of_zero_le ha0
  obtain ⟨c, rfl⟩ := Int.eq_ofNat_of_zero_le hb0
  obtain ⟨i0, hi, hz0, hz1, hz2⟩ := info_parts infoByte
  have HI := Lib.hid hi; have HZ0 := Lib.hid hz0; have HZ1 := Lib.hid hz1; have HZ2 := Lib.hid hz2
  have hm := World.ownsRow_made (w := w) (base := w.heap.size) (e := 5) (size := 1) #[] 0 (Nat.le_refl _) (by unfold maxLen; omega) rfl
  have HM := Lib.hid hm
  have hal : a ≤ 100 := by omega
  have hcl : c ≤ 100 := by omega
  have hnl2 : n ≤ 1000 := by omega
  have HAL := Lib.hid hal; have HCL := Lib.hid hcl; have HNL := Lib.hid hnl2
  clear hi hz0 hz1 hz2 hm ha0 hb0
  go_enter Tryd.func7, Tryd.ntmps7
  go_wp2
  go_loopw [7, 8] (fun v i wr => ∃ k : Nat, k ≤ a ∧ i = .int .i64 k ∧ wr.ownsRow w.heap.size 5 1 v k (vals (List.replicate k 32)) ∧ Below w.heap.size w wr) (fun _ i _ => a - (intOf i).toNat)
  case atStart => exact ⟨0, Nat.zero_le _, rfl, HM.out, (Below.refl _ _).alloc (Nat.le_refl _) _⟩
  case round =>
    obtain ⟨k, hk, rfl, hown, hbw⟩ := hrel
    have HOWN := Lib.hid hown; have HBW := Lib.hid hbw
    have HBS := Lib.hid hbw.size
    clear hown hbw
    by_cases hlt : k < a
    · go_wp2_with (at_builtin; refine wpList_append_own _ rfl (.tmp 37) (.tmp 38) 22 rfl w.heap.size 5 i0 (.int .u8 0) 1 1 Tryd.underlying22 HI.out HZ0.out HZ1.out HZ2.out rfl (by decide) _ _ _ rfl (HOWN.out.alloc _) ⟨wr.heap.size, 0, none⟩ 1 1 [.int .u8 32] rfl rfl (one_new _ _ _) (oneCell_byte _) (by have := HAL.out; unfold maxLen; omega) (by have := HAL.out; omega) (by have := HBS.out; simp; omega) ?_; intro v3 w3 hown3 hgrow3 hnil3; have AFT := Lib.hid ((HBW.out.alloc HBS.out _).grown hgrow3 (by have := HBS.out; simp; omega) (fun q hq => (HOWN.out.lt q hq).1)); have HO3 := Lib.hid hown3; clear hown3 hgrow3 hnil3)
      go_roundw
      case rel => exact ⟨k + 1, by omega, by go_num, by rw [← vals_snoc]; exact HO3.out, AFT.out⟩
      case measure => simp [intOf]; omega
    · obtain rfl : k = a := by omega
      have hsrc := src_cells (HB.out.below HBW.out) HPN.out
      have HSRC := Lib.hid hsrc
      clear hsrc
      go_wp2_with (at_builtin; refine append_src rfl (.tmp 40) (.tmp 41) 22 rfl w.heap.size 5 i0 (.int .u8 0) 1 Tryd.underlying22 HI.out HZ0.out HZ1.out HZ2.out rfl _ _ _ rfl HOWN.out p n d xs rfl HX.out HSRC.out (by have := HAL.out; have := HNL.out; unfold maxLen; omega) (by have := HAL.out; have := HNL.out; omega) HBS.out ?_; intro v3 w3 hown3 hgrow3; have HB3 := Lib.hid (HBW.out.grown hgrow3 HBS.out (fun q hq => (HOWN.out.lt q hq).1)); have HO3 := Lib.hid hown3; clear hown3 hgrow3)
      have ho3 : w3.ownsRow w.heap.size 5 1 v3 (k + n) (vals (List.replicate k 32 ++ xs)) := by rw [vals_append]; exact HO3.out
      have HO3' := Lib.hid ho3
      clear ho3
      go_loopw [7, 9] (fun v i wr => ∃ q : Nat, q ≤ c ∧ i = .int .i64 q ∧ wr.ownsRow w.heap.size 5 1 v (k + n + q) (vals (List.replicate k 32 ++ xs ++ List.replicate q 10)) ∧ Below w.heap.size w wr) (fun _ i _ => c - (intOf i).toNat)
      case atStart => exact ⟨0, Nat.zero_le _, rfl, by simpa using HO3'.out, HB3.out⟩
      case round =>
        obtain ⟨q, hq, rfl, hown, hbw⟩ := hrel
        have HO4 := Lib.hid hown; have HB4 := Lib.hid hbw
        have HBS4 := Lib.hid hbw.size
        clear hown hbw
        by_cases hlt2 : q < c
        · go_wp2_with (at_builtin; refine wpList_append_own _ rfl (.tmp 49) (.tmp 50) 22 rfl w.heap.size 5 i0 (.int .u8 0) 1 1 Tryd.underlying22 HI.out HZ0.out HZ1.out HZ2.out rfl (by decide) _ _ _ rfl (HO4.out.alloc _) ⟨wr.heap.size, 0, none⟩ 1 1 [.int .u8 10] rfl rfl (one_new _ _ _) (oneCell_byte _) (by have := HAL.out; have := HNL.out; have := HCL.out; unfold maxLen; omega) (by have := HAL.out; have := HNL.out; have := HCL.out; omega) (by have := HBS4.out; simp; omega) ?_; intro v5 w5 hown5 hgrow5 hnil5; have AFT := Lib.hid ((HB4.out.alloc HBS4.out _).grown hgrow5 (by have := HBS4.out; simp; omega) (fun q hq => (HO4.out.lt q hq).1)); have HO5 := Lib.hid hown5; clear hown5 hgrow5 hnil5)
          go_roundw
          case rel =>
            refine ⟨q + 1, by omega, by go_num, ?_, AFT.out⟩
            have := HO5.out
            rw [List.replicate_succ', ← List.append_assoc, vals_append]
            exact this
          case measure => simp [intOf]; omega
        · obtain rfl : q = c := by omega
          obtain ⟨N, hN⟩ : ∃ N, N = k + n + q := ⟨_, rfl⟩
          have hNle : N ≤ 1200 := by have := HAL.out; have := HNL.out; have := HCL.out; omega
          have hyl : (List.replicate k 32 ++ xs ++ List.replicate q (10 : Int)).length = N := by rw [List.length_append, List.length_append, List.length_replicate, List.length_replicate, HX.out, hN]
          have hlx := lex_around k q xs
          have hyb : Bytes (List.replicate k 32 ++ xs ++ List.replicate q 10) := bytes_append (bytes_append (bytes_rep k 32 (by omega) (by omega)) HB.out.2.2.2.2) (bytes_rep q 10 (by omega) (by omega))
          have ho := HO4.out
          rw [← hN] at ho
          obtain ⟨ys, hys⟩ : ∃ ys, ys = List.replicate k 32 ++ xs ++ List.replicate q (10 : Int) := ⟨_, rfl⟩
          rw [← hys] at hyl hlx hyb ho
          obtain ⟨p2, c2, rfl, hby⟩ := own_bytes ho hyl hyb
          have HN := Lib.hid hN; have HYL := Lib.hid hyl; have HLX := Lib.hid hlx; have HBY := Lib.hid hby; have HNL2 := Lib.hid hNle
          have hNi : (N : Int) ≤ 1200 := by omega
          clear hN hyl hlx hyb ho hys hby hNle HO4
          go_wp2_with (fail)
          refine (lex_walk p n d xs _ (HB.out.below HB4.out) (HL.out.below HB4.out)).mono ?_
          rintro e w5 ⟨hb5, hc5⟩
          have HB5 := Lib.hid (HB4.out.trans (hb5.mono HB4.out.size))
          have HBY5 := Lib.hid (HBY.out.below hb5)
          clear hb5
          rcases hc5 with ⟨h, _⟩ | ⟨_, q1, d1, k1, h, rfl⟩ | ⟨_, ts, g, c1, h, rfl, hat⟩
          · exfalso; rw [HX.out] at h; have := HNL.out; omega
          · have H5 := Lib.hid h; clear h
            go_wp2_with (fail)
            refine (lex_walk p2 N c2 ys _ HBY5.out (HL.out.below HB5.out)).mono ?_
            rintro e w6 ⟨hb6, hc6⟩
            have HB6 := Lib.hid (HB5.out.trans (hb6.mono HB5.out.size))
            clear hb6
            rcases hc6 with ⟨h, _⟩ | ⟨_, q2, d2, k2, h, rfl⟩ | ⟨_, ts, g, c1, h, rfl, hat⟩
            · exfalso; rw [HYL.out] at h; have := HNL2.out; omega
            · rw [HLX.out, H5.out] at h
              obtain rfl : k1 + k = k2 := by injection h
              have hk1 : (k1 : Int) ≤ 65536 := by have := lex_inl _ xs 0 k1 (Nat.le_refl _) H5.out; rw [HX.out] at this; omega
              clear h
              go_wp2
              go_loop [16, 17] (fun i _ => i = .int .i64 0) (fun _ _ => 0)
              case atStart => rfl
              case round =>
                subst hrel
                go_wp2_with (fail)
                refine (awake_walk _ (HL.out.below HB6.out)).mono ?_
                rintro e w7 ⟨rfl, hb7⟩
                have HB7 := Lib.hid (HB6.out.trans (hb7.mono HB6.out.size)); clear hb7
                go_wp2
                go_ret
                exact ⟨rfl, HB7.out⟩
            · rw [HLX.out, H5.out] at h; cases h
          · have H5 := Lib.hid h; have HAT := Lib.hid hat; clear h hat
            go_wp2_with (fail)
            refine (lex_walk p2 N c2 ys _ HBY5.out (HL.out.below HB5.out)).mono ?_
            rintro e w6 ⟨hb6, hc6⟩
            have HB6 := Lib.hid (HB5.out.trans (hb6.mono HB5.out.size))
            have HAT6 := Lib.hid (HAT.out.below hb6)
            clear hb6
            rcases hc6 with ⟨h, _⟩ | ⟨_, q2, d2, k2, h, rfl⟩ | ⟨_, ts', g', c', h, rfl, hat'⟩
            · exfalso; rw [HYL.out] at h; have := HNL2.out; omega
            · rw [HLX.out, H5.out] at h; cases h
            · rw [HLX.out, H5.out] at h
              obtain rfl : ts.map (sh k) = ts' := by injection h
              clear h
              obtain ⟨m, hm⟩ : ∃ m, m = ts.length := ⟨_, rfl⟩
              have hml := lex_len H5.out
              rw [HX.out, ← hm] at hml
              have hmap : (ts.map (sh k)).length = m := by rw [List.length_map, hm]
              have hat6 := HAT6.out
              rw [HX.out] at hat6
              rw [HYL.out] at hat'
              rw [hmap, ← hm]
              have HM2 := Lib.hid hm; have HA := Lib.hid hat6; have HA' := Lib.hid hat'; have HMAP := Lib.hid hmap
              clear hm hmap hat6 hat'
              go_wp2
              go_loopw [16, 17] (fun i _ wr => ∃ j : Nat, j ≤ m + 1 ∧ i = .int .i64 j ∧ Below w6.heap.size w6 wr) (fun i _ _ => m + 1 - (intOf i).toNat)
              case atStart => exact ⟨0, Nat.zero_le _, rfl, Below.refl _ _⟩
              case round =>
                obtain ⟨j, hj, rfl, hw⟩ := hrel
                have HW := Lib.hid hw; clear hw
                have HWW := Lib.hid (HB6.out.trans (HW.out.mono HB6.out.size))
                by_cases hlt3 : j = m + 1
                · subst hlt3
                  go_wp2_with (fail)
                  refine (awake_walk _ (HL.out.below HWW.out)).mono ?_
                  rintro e w7 ⟨rfl, hb7⟩
                  have HB7 := Lib.hid (HWW.out.trans (hb7.mono HWW.out.size)); clear hb7
                  go_wp2
                  go_ret
                  exact ⟨rfl, HB7.out⟩
                · obtain ⟨c0, c1', c2'⟩ := (HA.out.below HW.out) j (by rw [List.length_append, ← HM2.out]; simp; omega)
                  obtain ⟨e0, e1, e2⟩ := (HA'.out.below HW.out) j (by rw [List.length_append, HMAP.out]; simp; omega)
                  by_cases hjm : j < m
                  · rw [tel_append_left _ _ _ (by rw [← HM2.out]; exact hjm)] at c0 c1' c2'
                    rw [tel_append_left _ _ _ (by rw [HMAP.out]; exact hjm), tel_map k ts j (by rw [← HM2.out]; exact hjm)] at e0 e1 e2
                    have hkk := lex_kind H5.out j (by rw [← HM2.out]; exact hjm)
                    have hak := lex_a H5.out j (by rw [← HM2.out]; exact hjm)
                    rw [HX.out] at hak
                    have e0' : wr.cell? ⟨g', j * 3, none⟩ = some (.int .u8 (tel ts j).k) := e0
                    have e1' : wr.cell? ⟨g', j * 3 + 1, none⟩ = some (.string (tel ts j).s) := e1
                    have e2' : wr.cell? ⟨g', j * 3 + 2, none⟩ = some (.int .i64 (((tel ts j).a + k : Nat) : Int)) := e2
                    clear e0 e1 e2
                    have hk6 : ((tel ts j).k == 6) = false := by rw [beq_eq_false_iff_ne]; omega
                    generalize (tel ts j).s = T at *
                    generalize (tel ts j).k = K at *
                    generalize (tel ts j).a = A at *
                    clear hkk
                    go_wp2
                    go_quiet (fail)
                    go_wp2
                    go_roundw
                    case rel => exact ⟨j + 1, by omega, by go_num, below_draws HW.out _⟩
                    case measure => simp [intOf]; omega
                  · obtain rfl : j = m := by omega
                    rw [HM2.out, tel_append_last, ← HM2.out] at c0 c1' c2'
                    rw [← HMAP.out, tel_append_last, HMAP.out] at e0 e1 e2
                    have hNN : N = n + k + q := by have := HN.out; omega
                    have d0 : wr.cell? ⟨g, j * 3, none⟩ = some (.int .u8 6) := c0
                    have d1 : wr.cell? ⟨g, j * 3 + 1, none⟩ = some (.string ⟨#[]⟩) := c1'
                    have d2 : wr.cell? ⟨g, j * 3 + 2, none⟩ = some (.int .i64 n) := c2'
                    have f0 : wr.cell? ⟨g', j * 3, none⟩ = some (.int .u8 6) := e0
                    have f1 : wr.cell? ⟨g', j * 3 + 1, none⟩ = some (.string ⟨#[]⟩) := e1
                    have f2 : wr.cell? ⟨g', j * 3 + 2, none⟩ = some (.int .i64 ((n + k + q : Nat) : Int)) := by rw [← hNN]; exact e2
                    have HNN := Lib.hid hNN
                    clear c0 c1' c2' e0 e1 e2 hNN
                    go_wp2
                    go_quiet (fail)
                    go_wp2
                    go_roundw
                    case rel => exact ⟨j + 1, by omega, by go_num, below_draws HW.out _⟩
                    case measure => simp [intOf]
end Token
end Go.Proofs.YtklibniadcpjhaaDoor
