/- The program's text of an effect. -/
import Derived.Test.YtggabjmfdnfckaaGreatDoorEfSame0
import Derived.Test.YtggabjmfdnfckaaGreatDoorEfDigP
namespace Go.Proofs.YtggabjmfdnfckaaGreatDoor
open Go.RowKit
set_option linter.unusedVariables false
set_option linter.unusedSimpArgs false
namespace Effect

def getW : ByteArray := ⟨#[103, 101, 116, 32]⟩
def putW : ByteArray := ⟨#[112, 117, 116, 32]⟩
def exnW : ByteArray := ⟨#[101, 120, 110, 32]⟩
def sepW : ByteArray := ⟨#[32, 44, 32]⟩
def noneW : ByteArray := ⟨#[110, 111, 110, 101]⟩
def textA (a : At) : ByteArray := if a.k = 1 then getW ++ digs a.r else if a.k = 2 then putW ++ digs a.r else exnW ++ a.x
theorem digs_size (n : Int) (h0 : 0 ≤ n) (h1 : n ≤ 9223372036854775807) : (digs n).size ≤ 20 := by
  have h : (digs n).size = (Lib.itoa n).length := by unfold digs; simp [ByteArray.size]
  rw [h]
  unfold Lib.itoa
  rw [if_neg (by omega), Lib.decDigits_length]
  exact Lib.nDigits_le20 n.toNat (by omega)
/-- Its text is short. -/
structure Sh (a : At) : Prop where
  r0 : 0 ≤ a.r
  r1 : a.r ≤ 9223372036854775807
  x : a.x.size ≤ 1000
theorem textA_size {a : At} (h : Sh a) : (textA a).size ≤ 1004 := by
  have h1 := digs_size a.r h.r0 h.r1
  have h2 := h.x
  have e1 : getW.size = 4 := rfl
  have e2 : putW.size = 4 := rfl
  have e3 : exnW.size = 4 := rfl
  unfold textA
  split
  · rw [ByteArray.size_append]; omega
  · split <;> rw [ByteArray.size_append] <;> omega
theorem add_run (a b c : ByteArray) (h : a ++ b = c) (hs : c.size ≤ 100000000) (W : World) : (Op.stringOp .add a b).run Tryz.prog W = .ok (.string c) W := by
  rw [run_string_add_sum, h]
  have : c.size = a.size + b.size := by rw [← h, ByteArray.size_append]
  omega
set_option maxHeartbeats 3200000 in
theorem text1_walk (a : At) (w : World) (h : Sh a) (hl : NumLaid w) : Calls Tryz.prog 44 #[.agg #[.int .u8 a.k, .int .i64 a.r, .string a.x]] w fun e w' => e = .returned (.string (textA a)) ∧ Below w.heap.size w w' := by
  have hd := fun O => digitsOf_walk a.r (by have := h.r0; omega) h.r1 (w.alloc O) (hl.below (al_new O))
  have hsz := textA_size h
  have HB := Lib.hid (fun O => al_new (W := w) O)
  by_cases h1 : a.k = 1
  · have he : textA a = getW ++ digs a.r := by unfold textA; rw [if_pos h1]
    have hadd := add_run _ _ _ he.symm (by omega)
    obtain ⟨k, r, x⟩ := a
    simp only at h1
    subst h1
    have HE := Lib.hid he; have HD := Lib.hid hd
    unfold getW at hadd
    clear he hsz hl h hd
    generalize textA ⟨1, r, x⟩ = T at *
    simp only at hadd HD ⊢
    go_enter Tryz.func44, Tryz.ntmps44
    go_wp2_with (fail)
    refine (HD.out _).mono ?_
    rintro e w1 ⟨rfl, hb1⟩
    have HB1 := Lib.hid (below_then (HB.out _) hb1 (by simp))
    clear hb1
    go_wp2_with (fail)
    go_ret
    exact ⟨rfl, HB1.out⟩
  · by_cases h2 : a.k = 2
    · have he : textA a = putW ++ digs a.r := by unfold textA; rw [if_neg h1, if_pos h2]
      have hadd := add_run _ _ _ he.symm (by omega)
      obtain ⟨k, r, x⟩ := a
      simp only at h2
      subst h2
      have HE := Lib.hid he; have HD := Lib.hid hd
      unfold putW at hadd
      clear he hsz hl h hd h1
      generalize textA ⟨2, r, x⟩ = T at *
      simp only at hadd HD ⊢
      go_enter Tryz.func44, Tryz.ntmps44
      go_wp2_with (fail)
      refine (HD.out _).mono ?_
      rintro e w1 ⟨rfl, hb1⟩
      have HB1 := Lib.hid (below_then (HB.out _) hb1 (by simp))
      clear hb1
      go_wp2_with (fail)
      go_ret
      exact ⟨rfl, HB1.out⟩
    · have he : textA a = exnW ++ a.x := by unfold textA; rw [if_neg h1, if_neg h2]
      have hadd := add_run _ _ _ he.symm (by omega)
      obtain ⟨k, r, x⟩ := a
      simp only at h1 h2 hadd
      have hb1 : (k == 1) = false := by simpa using h1
      have hb2 : (k == 2) = false := by simpa using h2
      unfold exnW at hadd
      clear he hsz hl h hd h1 h2
      generalize textA ⟨k, r, x⟩ = T at *
      go_enter Tryz.func44, Tryz.ntmps44
      go_wp2_with (fail)
      go_ret
      exact ⟨rfl, HB.out _⟩
/-! ### Text -/
theorem infoStr : (Tryz.prog.info? 9).map (fun i => (i.zero, i.size, i.bytes)) = some (some (.string ⟨#[]⟩), 1, 16) := by kernel_rfl
theorem str_parts : ∃ i, Tryz.prog.info? 9 = some i ∧ i.zero = some (.string ⟨#[]⟩) ∧ i.size = 1 ∧ i.bytes = 16 := by
  have h := infoStr
  cases hi : Tryz.prog.info? 9 with
  | none => rw [hi] at h; cases h
  | some i =>
    rw [hi] at h
    simp only [Option.map_some, Option.some.injEq, Prod.mk.injEq] at h
    exact ⟨i, rfl, h.1, h.2.1, h.2.2⟩
def strsV (ss : List ByteArray) : List Value := ss.map Value.string
/-- A row of texts of one's own. -/
def Txs (B : Nat) (W : World) (v : Value) (n : Nat) (ss : List ByteArray) : Prop := W.ownsRow B 9 1 v n (strsV ss)
theorem own_belowS {W W' : World} {B n : Nat} {v : Value} {ss : List ByteArray} (h : Txs B W v n ss) (hb : Below W.heap.size W W') : Txs B W' v n ss := own_below h hb
theorem new_str {w : World} {N : Nat} {x : ByteArray} {ty : TypeId} (hN : N = w.heap.size) : ∀ j u, (strsV [x])[j]? = some u → (w.alloc (.cells #[.string x] ty)).cell? ((⟨N, 0, none⟩ : Addr).add j) = some u := by
  intro j u hu
  subst hN
  rw [Addr.add_lit, Nat.zero_add, World.cell?_alloc_mark]
  simpa [strsV] using hu
def joinT (ss : List ByteArray) : ByteArray := ⟨(Lib.join (ss.map (·.data.toList)) [32, 44, 32]).toArray⟩
def textE (l : List At) : ByteArray := if l = [] then noneW else joinT (l.map textA)
theorem join_len : ∀ r : List ByteArray, (∀ s ∈ r, s.size ≤ 1004) → (Lib.join (r.map (·.data.toList)) [32, 44, 32]).length ≤ 1007 * r.length
  | [], _ => by simp [Lib.join_nil]
  | x :: r, h => by
    have tail : ∀ q : List ByteArray, (∀ s ∈ q, s.size ≤ 1004) → (Lib.joinTail [32, 44, 32] (q.map (·.data.toList))).length ≤ 1007 * q.length := fun q => by
      induction q with
      | nil => intro _; simp [Lib.joinTail]
      | cons y q ih =>
        intro hq
        have h1 := ih fun s hs => hq s (by simp [hs])
        have h2 : y.data.toList.length ≤ 1004 := hq y (by simp)
        unfold Lib.joinTail at h1 ⊢
        rw [List.map_cons, List.map_cons, List.flatten_cons, List.length_append, List.length_append, List.length_cons]
        simp only [List.length_cons, List.length_nil]
        omega
    have h1 := tail r fun s hs => h s (by simp [hs])
    have h2 : x.data.toList.length ≤ 1004 := h x (by simp)
    rw [List.map_cons, Lib.join_cons, List.length_append, List.length_cons]
    omega
theorem tx_cells {W : World} {B n c : Nat} {a : Option Addr} {ss : List ByteArray} (h : Txs B W (.slice a n c) n ss) (hn : 0 < n) : ∃ g, a = some ⟨g, 0, none⟩ ∧ g < W.heap.size ∧ n ≤ c ∧ ∀ (j : Nat) x, ss[j]? = some x → W.cell? ⟨g, 0 + j, none⟩ = some (.string x) := by
  rcases h.2 with ⟨_, h0⟩ | ⟨g, cap, cur, hv, hb, hg, h1, _⟩
  · omega
  · injection hv with hv1 hv2 hv3
    subst hv1 hv3
    refine ⟨g, rfl, lt_of_block hg, h1, fun j x hx => ?_⟩
    have := h.cells (g := g) rfl j (.string x) (by unfold strsV; rw [List.getElem?_map, hx]; rfl)
    rw [Addr.add_lit] at this
    exact this
set_option maxRecDepth 100000 in
set_option maxHeartbeats 6400000 in
theorem text_walk {n c : Nat} {a : Option Addr} {l : List At} {w : World} (h : Rd w n a l) (hn : n ≤ 1000) (hsh : ∀ x ∈ ofA l, Sh x) (hl : NumLaid w) : Calls Tryz.prog 25 #[.slice a n c] w fun e w' => e = .returned (.string (textE (ofA l))) ∧ Below w.heap.size w w' := by
  obtain ⟨i0, hi, hz0, hz2, hz3⟩ := str_parts
  have HI := Lib.hid hi; have HZ0 := Lib.hid hz0; have HZ2 := Lib.hid hz2; have HZ3 := Lib.hid hz3
  have HC := Lib.hid (ofR (c := c) h (by omega)); have HSH := Lib.hid hsh; have HL := Lib.hid hl
  clear hi hz0 hz2 hz3 h hsh hl
  generalize ofA l = u at *
  go_enter Tryz.func25, Tryz.ntmps25
  go_wp2_with (fail)
  refine HC.out.mono ?_
  rintro e w1 ⟨a1, m, c1, rfl, hm, -, hr1, hb1⟩
  have HR := Lib.hid hr1; have HB := Lib.hid hb1; have HUL := Lib.hid hr1.len
  clear hr1 hb1
  have HS1 := Lib.hid HB.out.size
  go_wp2_with (fail)
  go_loopw [3, 5, 9] (fun own _ i wr => ∃ (j c2 : Nat) (a2 : Option Addr), j ≤ m ∧ i = .int .i64 (j : Int) ∧ own = .slice a2 j c2 ∧ Hid (Txs w1.heap.size wr (.slice a2 j c2) j ((u.take j).map textA)) ∧ Hid (Below w1.heap.size w1 wr)) (fun _ _ i _ => m - (intOf i).toNat)
  case atStart => exact ⟨0, 0, none, Nat.zero_le _, rfl, rfl, Lib.hid (by rw [List.take_zero]; exact World.ownsRow_nil _ _ _ _), Lib.hid (Below.refl _ _)⟩
  case round =>
    obtain ⟨j, c2, a2, hj, rfl, rfl, HT, HS⟩ := hrel
    by_cases hlt : j < m
    · have hjl : j < u.length := by rw [HUL.out]; exact hlt
      obtain ⟨b, o, rfl, e0, e1, e2⟩ := (HR.out.at_.below HS.out).get j hjl
      have hx := HSH.out _ (aget_mem hjl)
      have htk := at_take u j hjl
      generalize aget u j = x at *
      have HX := Lib.hid hx; have HTK := Lib.hid htk
      have HCT := Lib.hid fun O : Obj => text1_walk x (wr.alloc O) hx (HL.out.below (Below.trans (Below.trans HB.out (HS.out.mono HB.out.size)) ((al_new O).mono (Nat.le_trans HB.out.size HS.out.size))))
      clear hx htk hjl
      go_wp2_with (fail)
      refine (HCT.out _).mono ?_
      rintro e w2 ⟨rfl, hb2⟩
      have hB2 : Below wr.heap.size wr w2 := (al_new _).trans (hb2.mono (by simp))
      have HT2 := Lib.hid (own_belowS HT.out hB2); have HS2 := Lib.hid (below_then HS.out hB2 HS.out.size)
      clear hb2 hB2 e0 e1 e2
      generalize htx : textA x = tx at *
      have HTX := Lib.hid htx
      clear htx
      go_wp2_with (at_builtin; refine wpList_append_own_at _ rfl (.tmp 13) (.tmp 16) 34 rfl w1.heap.size 9 i0 _ 1 16 Tryz.underlying34 HI.out HZ0.out HZ2.out HZ3.out rfl (by omega) (.slice a2 j c2) j (strsV ((u.take j).map textA)) rfl (own_belowS HT2.out (al_new _)) _ 1 1 (strsV [tx]) rfl rfl (new_str rfl) (by simp [strsV, Value.oneCell']) (by unfold maxLen; omega) (by omega) (by have := HS2.out.size; simp; omega) ?_; intro v' w3 hown hgr hnil hat; obtain ⟨a3, c3', rfl, -, -⟩ := own_slice hown; have HT3 := Lib.hid hown; have HS3 := Lib.hid ((below_then HS2.out (al_new _) HS2.out.size).grown hgr (by have := HS2.out.size; simp; omega) fun g hg => (HT2.out.lt g hg).1); clear hown hgr hnil hat)
      go_roundw
      case rel => exact ⟨j + 1, c3', a3, by omega, by go_num, rfl, Lib.hid (by have := HT3.out; unfold Txs; rw [HTK.out, List.map_append]; show World.ownsRow _ _ _ _ _ _ (strsV _); unfold strsV at this ⊢; rw [List.map_append, List.map_cons, List.map_nil, HTX.out]; exact this), HS3⟩
      case measure => simp [intOf]; omega
    · obtain rfl : j = m := by omega
      have ht := HT.out
      rw [List.take_of_length_le (by rw [HUL.out]; exact Nat.le_refl _)] at ht
      by_cases h0 : j = 0
      · subst h0
        have hu : u = [] := List.eq_nil_of_length_eq_zero HUL.out
        have HU := Lib.hid hu
        clear ht hu
        have HBB := Lib.hid (below_then HB.out HS.out HB.out.size)
        go_wp2_with (fail)
        go_ret
        exact ⟨ret_str (by rw [HU.out]; rfl), HBB.out⟩
      · obtain ⟨g, rfl, hg, hcap, hcells⟩ := tx_cells ht (by omega)
        have hlen : (u.map textA).length = j := by rw [List.length_map]; exact HUL.out
        have hjn := join_len (u.map textA) fun s hs => by
          obtain ⟨x, hx, rfl⟩ := List.mem_map.1 hs
          exact textA_size (HSH.out x hx)
        have hj := Tryz.strings_Join g 0 c2 (u.map textA) sepW wr hcells hg (by rw [hlen]; omega) (by rw [hlen]; exact hcap) (by
          have : sepW.data.toList = [32, 44, 32] := rfl
          rw [this]; rw [hlen] at hjn; omega)
        rw [hlen] at hj
        have HJ := Lib.hid hj
        have HU := Lib.hid (show u ≠ [] from fun e => h0 (by have := HUL.out; rw [e] at this; exact this.symm))
        have HBB := Lib.hid (below_then HB.out HS.out HB.out.size)
        clear hj hjn hcells ht hlen
        unfold sepW at HJ
        go_wp2_with (fail)
        refine HJ.out.mono ?_
        rintro e w4 ⟨rfl, hb4⟩
        have HB4 := Lib.hid (below_then HBB.out hb4 HBB.out.size)
        clear hb4
        go_wp2_with (fail)
        go_ret
        exact ⟨ret_str (by unfold textE joinT; rw [if_neg HU.out, List.map_map]), HB4.out⟩
end Effect
end Go.Proofs.YtggabjmfdnfckaaGreatDoor
