import Derived.Test.YtkfkpjngiffamaaGreatDoorGC04
import Derived.Deep.Slices
import Derived.Deep.Fields
import Derived.Stop.LaidErr
import Derived.LaidMore
import Derived.LaidByTextLater
import Derived.WalkKit
import Derived.Below
import Derived.LoopTactic
import Derived.Outline
import Derived.Lib.Hide
import Derived.IntWalk
import Derived.Shelf.RegionOpenPlain
import Derived.Deep.LoopGhost
namespace Go.Proofs.YtkfkpjngiffamaaGreatDoor
open Go.RowKit
set_option linter.unusedVariables false
set_option linter.unusedSimpArgs false
namespace Effect

def getW : ByteArray := ⟨#[103, 101, 116, 32]⟩
def putW : ByteArray := ⟨#[112, 117, 116, 32]⟩
def exnW : ByteArray := ⟨#[101, 120, 110, 32]⟩
def sepW : ByteArray := ⟨#[32, 44, 32]⟩
def noneW : ByteArray := ⟨#[110, 111, 110, 101]⟩
def textA (a : At) : ByteArray := if a.k = 1 then getW ++ digs a.r else if a.k = 2 then putW ++ digs a.r else exnW ++ a.x
theorem digs_size (n : Int) (h0 : 0 ≤ n) (h1 : n ≤ 9223372036854775807) : (digs n).size ≤ 20 := by
 have h : (digs n).size = (Lib.itoa n).length := by unfold digs; simp [ByteArray.size]
 rw [h]
 unfold Lib.itoa
 rw [if_neg (by omega), Lib.decDigits_length]
 exact Lib.nDigits_le20 n.toNat (by omega)
structure Sh (a : At) : Prop where
 r0 : 0 ≤ a.r
 r1 : a.r ≤ 9223372036854775807
 x : a.x.size ≤ 1000
theorem textA_size {a : At} (h : Sh a) : (textA a).size ≤ 1004 := by
 have h1 := digs_size a.r h.r0 h.r1
 have h2 := h.x
 have e1 : getW.size = 4 := rfl
 have e2 : putW.size = 4 := rfl
 have e3 : exnW.size = 4 := rfl
 unfold textA
 split
 ·rw [ByteArray.size_append]; omega
 ·split <;> rw [ByteArray.size_append] <;> omega
theorem add_run (a b c : ByteArray) (h : a ++ b = c) (hs : c.size ≤ 100000000) (W : World) : (Op.stringOp .add a b).run Tryz.prog W = .ok (.string c) W := by
 rw [run_string_add_sum, h]
 have : c.size = a.size + b.size := by rw [← h, ByteArray.size_append]
 omega
set_option maxHeartbeats 3200000 in
theorem text1_walk (a : At) (w : World) (h : Sh a) (hl : NumLaid w) : Calls Tryz.prog 113 #[.agg #[.int .u8 a.k, .int .i64 a.r, .string a.x]] w fun e w' => e = .returned (.string (textA a)) ∧ Below w.heap.size w w' := by
 have hd := fun O => digitsOf_walk a.r (by have := h.r0; omega) h.r1 (w.alloc O) (hl.below (al_new O))
 have hsz := textA_size h
 have HB := Lib.hid (fun O => al_new (W := w) O)
 by_cases h1 : a.k = 1
 ·have he : textA a = getW ++ digs a.r := by unfold textA; rw [if_pos h1]
  have hadd := add_run _ _ _ he.symm (by omega)
  obtain ⟨k, r, x⟩ := a
  simp only at h1
  subst h1
  have HE := Lib.hid he; have HD := Lib.hid hd
  unfold getW at hadd
  clear he hsz hl h hd
  generalize textA ⟨1, r, x⟩ = T at *
  simp only at hadd HD ⊢
  go_enter Tryz.func113, Tryz.ntmps113
  go_wp2_with (fail)
  refine (HD.out _).mono ?_
  rintro e w1 ⟨rfl, hb1⟩
  have HB1 := Lib.hid (below_then (HB.out _) hb1 (by simp))
  clear hb1
  go_wp2_with (fail)
  go_ret
  exact ⟨rfl, HB1.out⟩
 ·by_cases h2 : a.k = 2
  ·have he : textA a = putW ++ digs a.r := by unfold textA; rw [if_neg h1, if_pos h2]
   have hadd := add_run _ _ _ he.symm (by omega)
   obtain ⟨k, r, x⟩ := a
   simp only at h2
   subst h2
   have HE := Lib.hid he; have HD := Lib.hid hd
   unfold putW at hadd
   clear he hsz hl h hd h1
   generalize textA ⟨2, r, x⟩ = T at *
   simp only at hadd HD ⊢
   go_enter Tryz.func113, Tryz.ntmps113
   go_wp2_with (fail)
   refine (HD.out _).mono ?_
   rintro e w1 ⟨rfl, hb1⟩
   have HB1 := Lib.hid (below_then (HB.out _) hb1 (by simp))
   clear hb1
   go_wp2_with (fail)
   go_ret
   exact ⟨rfl, HB1.out⟩
  ·have he : textA a = exnW ++ a.x := by unfold textA; rw [if_neg h1, if_neg h2]
   have hadd := add_run _ _ _ he.symm (by omega)
   obtain ⟨k, r, x⟩ := a
   simp only at h1 h2 hadd
   have hb1 : (k == 1) = false := by simpa using h1
   have hb2 : (k == 2) = false := by simpa using h2
   unfold exnW at hadd
   clear he hsz hl h hd h1 h2
   generalize textA ⟨k, r, x⟩ = T at *
   go_enter Tryz.func113, Tryz.ntmps113
   go_wp2_with (fail)
   go_ret
   exact ⟨rfl, HB.out _⟩
theorem infoStr : (Tryz.prog.info? 9).map (fun i => (i.zero, i.size, i.bytes)) = some (some (.string ⟨#[]⟩), 1, 16) := by kernel_rfl
theorem str_parts : ∃ i, Tryz.prog.info? 9 = some i ∧ i.zero = some (.string ⟨#[]⟩) ∧ i.size = 1 ∧ i.bytes = 16 := by
 have h := infoStr
 cases hi : Tryz.prog.info? 9 with
 | none => rw [hi] at h; cases h
 | some i =>
  rw [hi] at h
  simp only [Option.map_some, Option.some.injEq, Prod.mk.injEq] at h
  exact ⟨i, rfl, h.1, h.2.1, h.2.2⟩
def strsV (ss : List ByteArray) : List Value := ss.map Value.string
def Txs (B : Nat) (W : World) (v : Value) (n : Nat) (ss : List ByteArray) : Prop := W.ownsRow B 9 1 v n (strsV ss)
theorem own_belowS {W W' : World} {B n : Nat} {v : Value} {ss : List ByteArray} (h : Txs B W v n ss) (hb : Below W.heap.size W W') : Txs B W' v n ss := own_below h hb
theorem new_str {w : World} {N : Nat} {x : ByteArray} {ty : TypeId} (hN : N = w.heap.size) : ∀ j u, (strsV [x])[j]? = some u → (w.alloc (.cells #[.string x] ty)).cell? ((⟨N, 0, none⟩ : Addr).add j) = some u := by
 intro j u hu
 subst hN
 rw [Addr.add_lit, Nat.zero_add, World.cell?_alloc_mark]
 simpa [strsV] using hu
def joinT (ss : List ByteArray) : ByteArray := ⟨(Lib.join (ss.map (·.data.toList)) [32, 44, 32]).toArray⟩
def textE (l : List At) : ByteArray := if l = [] then noneW else joinT (l.map textA)
theorem join_len : ∀ r : List ByteArray, (∀ s ∈ r, s.size ≤ 1004) → (Lib.join (r.map (·.data.toList)) [32, 44, 32]).length ≤ 1007 * r.length
 | [], _ => by simp [Lib.join_nil]
 | x :: r, h => by
  have tail : ∀ q : List ByteArray, (∀ s ∈ q, s.size ≤ 1004) → (Lib.joinTail [32, 44, 32] (q.map (·.data.toList))).length ≤ 1007 * q.length := fun q => by
   induction q with
   | nil => intro _; simp [Lib.joinTail]
   | cons y q ih =>
    intro hq
    have h1 := ih fun s hs => hq s (by simp [hs])
    have h2 : y.data.toList.length ≤ 1004 := hq y (by simp)
    unfold Lib.joinTail at h1 ⊢
    rw [List.map_cons, List.map_cons, List.flatten_cons, List.length_append, List.length_append, List.length_cons]
    simp only [List.length_cons, List.length_nil]
    omega
  have h1 := tail r fun s hs => h s (by simp [hs])
  have h2 : x.data.toList.length ≤ 1004 := h x (by simp)
  rw [List.map_cons, Lib.join_cons, List.length_append, List.length_cons]
  omega
theorem tx_cells {W : World} {B n c : Nat} {a : Option Addr} {ss : List ByteArray} (h : Txs B W (.slice a n c) n ss) (hn : 0 < n) : ∃ g, a = some ⟨g, 0, none⟩ ∧ g < W.heap.size ∧ n ≤ c ∧ ∀ (j : Nat) x, ss[j]? = some x → W.cell? ⟨g, 0 + j, none⟩ = some (.string x) := by
 rcases h.2 with ⟨_, h0⟩ | ⟨g, cap, cur, hv, hb, hg, h1, _⟩
 ·omega
 ·injection hv with hv1 hv2 hv3
  subst hv1 hv3
  refine ⟨g, rfl, lt_of_block hg, h1, fun j x hx => ?_⟩
  have := h.cells (g := g) rfl j (.string x) (by unfold strsV; rw [List.getElem?_map, hx]; rfl)
  rw [Addr.add_lit] at this
  exact this
set_option maxRecDepth 100000 in
set_option maxHeartbeats 6400000 in
theorem text_walk {n c : Nat} {a : Option Addr} {l : List At} {w : World} (h : Rd w n a l) (hn : n ≤ 1000) (hsh : ∀ x ∈ ofA l, Sh x) (hl : NumLaid w) : Calls Tryz.prog 90 #[.slice a n c] w fun e w' => e = .returned (.string (textE (ofA l))) ∧ Below w.heap.size w w' := by
 obtain ⟨i0, hi, hz0, hz2, hz3⟩ := str_parts
 have HI := Lib.hid hi; have HZ0 := Lib.hid hz0; have HZ2 := Lib.hid hz2; have HZ3 := Lib.hid hz3
 have HC := Lib.hid (ofR (c := c) h (by omega)); have HSH := Lib.hid hsh; have HL := Lib.hid hl
 clear hi hz0 hz2 hz3 h hsh hl
 generalize ofA l = u at *
 go_enter Tryz.func90, Tryz.ntmps90
 go_wp2_with (fail)
 refine HC.out.mono ?_
 rintro e w1 ⟨a1, m, c1, rfl, hm, -, hr1, hb1⟩
 have HR := Lib.hid hr1; have HB := Lib.hid hb1; have HUL := Lib.hid hr1.len
 clear hr1 hb1
 have HS1 := Lib.hid HB.out.size
 go_wp2_with (fail)
 go_loopw [3, 5, 9] (fun own _ i wr => ∃ (j c2 : Nat) (a2 : Option Addr), j ≤ m ∧ i = .int .i64 (j : Int) ∧ own = .slice a2 j c2 ∧ Hid (Txs w1.heap.size wr (.slice a2 j c2) j ((u.take j).map textA)) ∧ Hid (Below w1.heap.size w1 wr)) (fun _ _ i _ => m - (intOf i).toNat)
 case atStart => exact ⟨0, 0, none, Nat.zero_le _, rfl, rfl, Lib.hid (by rw [List.take_zero]; exact World.ownsRow_nil _ _ _ _), Lib.hid (Below.refl _ _)⟩
 case round =>
  obtain ⟨j, c2, a2, hj, rfl, rfl, HT, HS⟩ := hrel
  by_cases hlt : j < m
  ·have hjl : j < u.length := by rw [HUL.out]; exact hlt
   obtain ⟨b, o, rfl, e0, e1, e2⟩ := (HR.out.at_.below HS.out).get j hjl
   have hx := HSH.out _ (aget_mem hjl)
   have htk := at_take u j hjl
   generalize aget u j = x at *
   have HX := Lib.hid hx; have HTK := Lib.hid htk
   have HCT := Lib.hid fun O : Obj => text1_walk x (wr.alloc O) hx (HL.out.below (Below.trans (Below.trans HB.out (HS.out.mono HB.out.size)) ((al_new O).mono (Nat.le_trans HB.out.size HS.out.size))))
   clear hx htk hjl
   go_wp2_with (fail)
   refine (HCT.out _).mono ?_
   rintro e w2 ⟨rfl, hb2⟩
   have hB2 : Below wr.heap.size wr w2 := (al_new _).trans (hb2.mono (by simp))
   have HT2 := Lib.hid (own_belowS HT.out hB2); have HS2 := Lib.hid (below_then HS.out hB2 HS.out.size)
   clear hb2 hB2 e0 e1 e2
   generalize htx : textA x = tx at *
   have HTX := Lib.hid htx
   clear htx
   go_wp2_with (at_builtin; refine wpList_append_own_at _ rfl (.tmp 13) (.tmp 16) 32 rfl w1.heap.size 9 i0 _ 1 16 Tryz.underlying32 HI.out HZ0.out HZ2.out HZ3.out rfl (by omega) (.slice a2 j c2) j (strsV ((u.take j).map textA)) rfl (own_belowS HT2.out (al_new _)) _ 1 1 (strsV [tx]) rfl rfl (new_str rfl) (by simp [strsV, Value.oneCell']) (by unfold maxLen; omega) (by omega) (by have := HS2.out.size; simp; omega) ?_; intro v' w3 hown hgr hnil hat; obtain ⟨a3, c3', rfl, -, -⟩ := own_slice hown; have HT3 := Lib.hid hown; have HS3 := Lib.hid ((below_then HS2.out (al_new _) HS2.out.size).grown hgr (by have := HS2.out.size; simp; omega) fun g hg => (HT2.out.lt g hg).1); clear hown hgr hnil hat)
   go_roundw
   case rel => exact ⟨j + 1, c3', a3, by omega, by go_num, rfl, Lib.hid (by have := HT3.out; unfold Txs; rw [HTK.out, List.map_append]; show World.ownsRow _ _ _ _ _ _ (strsV _); unfold strsV at this ⊢; rw [List.map_append, List.map_cons, List.map_nil, HTX.out]; exact this), HS3⟩
   case measure => simp [intOf]; omega
  ·obtain rfl : j = m := by omega
   have ht := HT.out
   rw [List.take_of_length_le (by rw [HUL.out]; exact Nat.le_refl _)] at ht
   by_cases h0 : j = 0
   ·subst h0
    have hu : u = [] := List.eq_nil_of_length_eq_zero HUL.out
    have HU := Lib.hid hu
    clear ht hu
    have HBB := Lib.hid (below_then HB.out HS.out HB.out.size)
    go_wp2_with (fail)
    go_ret
    exact ⟨ret_str (by rw [HU.out]; rfl), HBB.out⟩
   ·obtain ⟨g, rfl, hg, hcap, hcells⟩ := tx_cells ht (by omega)
    have hlen : (u.map textA).length = j := by rw [List.length_map]; exact HUL.out
    have hjn := join_len (u.map textA) fun s hs => by
     obtain ⟨x, hx, rfl⟩ := List.mem_map.1 hs
     exact textA_size (HSH.out x hx)
    have hj := Tryz.strings_Join g 0 c2 (u.map textA) sepW wr hcells hg (by rw [hlen]; omega) (by rw [hlen]; exact hcap) (by
     have : sepW.data.toList = [32, 44, 32] := rfl
     rw [this]; rw [hlen] at hjn; omega)
    rw [hlen] at hj
    have HJ := Lib.hid hj
    have HU := Lib.hid (show u ≠ [] from fun e => h0 (by have := HUL.out; rw [e] at this; exact this.symm))
    have HBB := Lib.hid (below_then HB.out HS.out HB.out.size)
    clear hj hjn hcells ht hlen
    unfold sepW at HJ
    go_wp2_with (fail)
    refine HJ.out.mono ?_
    rintro e w4 ⟨rfl, hb4⟩
    have HB4 := Lib.hid (below_then HBB.out hb4 HBB.out.size)
    clear hb4
    go_wp2_with (fail)
    go_ret
    exact ⟨ret_str (by unfold textE joinT; rw [if_neg HU.out, List.map_map]), HB4.out⟩
end Effect
end Go.Proofs.YtkfkpjngiffamaaGreatDoor
namespace Go.Proofs.YtkfkpjngiffamaaGreatDoor
open Go.RowKit
set_option linter.unusedVariables false
set_option linter.unusedSimpArgs false
namespace Effect

def exP : At := ⟨2, 1, ⟨#[]⟩⟩
def exText : ByteArray := ⟨#[103, 101, 116, 32, 50, 32, 44, 32, 112, 117, 116, 32, 49]⟩
theorem dig1 : digs 1 = ⟨#[49]⟩ := by
 unfold digs Lib.itoa
 rw [if_neg (by omega), Lib.decDigits_one (by decide)]; rfl
theorem dig2 : digs 2 = ⟨#[50]⟩ := by
 unfold digs Lib.itoa
 rw [if_neg (by omega), Lib.decDigits_one (by decide)]; rfl
def greatB (l : List At) : Bool := decide (100 < l.length) || l.any fun x => decide (100 < x.x.size)
set_option maxRecDepth 100000 in
set_option maxHeartbeats 6400000 in
theorem great_walk {n c : Nat} {a : Option Addr} {l : List At} {w : World} (h : Rd w n a l) (hn : n ≤ maxLen) : Calls Tryz.prog 32 #[.slice a n c] w fun e w' => e = .returned (.bool (greatB l)) ∧ w' = w := by
 have H := Lib.hid h
 clear h
 unfold maxLen at hn
 go_enter Tryz.func32, Tryz.ntmps32
 by_cases h100 : 100 < n
 ·have hg : true = greatB l := by unfold greatB; rw [H.out.len, decide_eq_true h100]; rfl
  have HG := Lib.hid hg
  clear hg
  go_wp2_with (fail)
  go_ret
  exact ⟨ret_bool HG.out, rfl⟩
 ·go_wp2_with (fail)
  go_loopw [3, 9] (fun _ i wr => ∃ j : Nat, j ≤ n ∧ i = .int .i64 (j : Int) ∧ Hid (wr = w) ∧ Hid ((l.take j).any (fun x => decide (100 < x.x.size)) = false)) (fun _ i _ => n - (intOf i).toNat)
  case atStart => exact ⟨0, Nat.zero_le _, rfl, Lib.hid rfl, Lib.hid (by simp)⟩
  case round =>
   obtain ⟨j, hj, rfl, HW, HA⟩ := hrel
   by_cases hlt : j < n
   ·have hjl : j < l.length := by rw [H.out.len]; exact hlt
    obtain ⟨b, o, rfl, -, -, e2⟩ := H.out.at_.get j hjl
    rw [← HW.out] at e2
    have hx := H.out.ok _ (aget_mem hjl)
    have htk := at_take l j hjl
    have hmem : aget l j ∈ l := aget_mem hjl
    generalize aget l j = x at *
    have HTK := Lib.hid htk; have HMEM := Lib.hid hmem
    unfold maxLen at hx
    clear htk hmem hjl
    by_cases hbig : 100 < x.x.size
    ·have hg : true = greatB l := by
      unfold greatB
      have : (l.any fun x => decide (100 < x.x.size)) = true := List.any_eq_true.2 ⟨x, HMEM.out, decide_eq_true hbig⟩
      rw [this]; simp
     have HG := Lib.hid hg
     clear hg
     go_wp2_with (fail)
     go_ret
     exact ⟨ret_bool HG.out, HW.out⟩
    ·have HBIG := Lib.hid hbig
     go_wp2_with (fail)
     go_roundw
     case rel => exact ⟨j + 1, by omega, by go_num, HW, Lib.hid (by rw [HTK.out, List.any_append, HA.out]; simp; have := HBIG.out; omega)⟩
     case measure => simp [intOf]; omega
   ·obtain rfl : j = n := by omega
    have hg : false = greatB l := by
     unfold greatB
     have := HA.out
     rw [List.take_of_length_le (by rw [H.out.len]; exact Nat.le_refl _)] at this
     rw [this, H.out.len, decide_eq_false h100]; rfl
    have HG := Lib.hid hg
    clear hg
    go_wp2_with (fail)
    go_ret
    exact ⟨ret_bool HG.out, HW.out⟩
theorem great_no {l : List At} (h : greatB l = false) : l.length ≤ 100 ∧ ∀ x ∈ l, x.x.size ≤ 100 := by
 unfold greatB at h
 rw [Bool.or_eq_false_iff] at h
 refine ⟨by have := of_decide_eq_false h.1; omega, fun x hx => ?_⟩
 have := List.any_eq_false.1 h.2 x hx
 simp at this
 omega
end Effect
end Go.Proofs.YtkfkpjngiffamaaGreatDoor
namespace Go.Proofs.YtkfkpjngiffamaaGreatDoor
open Go.RowKit Go.ChangeShapes Go.WideShapes Go.Deep
set_option linter.unusedVariables false
namespace Effect

def IsAts (w : World) (a : Option Addr) (len _cap : Nat) (l : List At) : Prop := l.length = len ∧ len ≤ maxLen ∧ AtsAt w a l ∧ ∀ x ∈ l, AtOk x
theorem wf_u8 {n : Int} (h : (Lit.int .u8 n).wf = true) : 0 ≤ n ∧ n ≤ 255 := by
 simp [Lit.wf, IntKind.min, IntKind.max, IntKind.signed, IntKind.bits] at h; omega
theorem wf_i64 {n : Int} (h : (Lit.int .i64 n).wf = true) : -9223372036854775808 ≤ n ∧ n ≤ 9223372036854775807 := by
 simp [Lit.wf, IntKind.min, IntKind.max, IntKind.signed, IntKind.bits] at h; omega
theorem atFields : ∃ f0 f1 f2 : Field, Tryz.prog.underlying 67 = some (.struct #[f0, f1, f2]) ∧ oneCellFields Tryz.prog #[f0, f1, f2] = true ∧
  Tryz.prog.underlying f0.type = some (.int .u8) ∧ Tryz.prog.underlying f1.type = some (.int .i64) ∧ Tryz.prog.underlying f2.type = some .string :=
 ⟨_, _, _, Tryz.underlying67, by kernel_rfl, by kernel_rfl, by kernel_rfl, by kernel_rfl⟩
theorem atCells : Tryz.prog.cellsOf 67 = 3 := by kernel_rfl
theorem list3 {α : Type} {l : List α} (h : l.length = 3) : ∃ a b c, l = [a, b, c] := by
 match l, h with
 | [a, b, c], _ => exact ⟨a, b, c, rfl⟩
theorem open_at {H : Type} {enc1 : TypeId × Value → H} {w : World} {base : Nat} {sp : Nat → Bool} {held : Bool} {fuel : Nat} {cs : List Value} {y : DataW H × List MemPlace}
  (h : DataW.trod enc1 Tryz.prog w base sp held fuel 67 cs = some y) : ∃ x : At, cs = enc x ∧ AtOk x := by
 obtain ⟨f0, f1, f2, hu, hone, u0, u1, u2⟩ := atFields
 obtain ⟨xs, n, _, _, hlen, hxl, hf⟩ := DataW.trod_struct hu h
 rw [atCells] at hlen
 obtain ⟨o0, k0⟩ := hone_of hone 0 f0 rfl
 obtain ⟨o1, k1⟩ := hone_of hone 1 f1 rfl
 obtain ⟨o2, k2⟩ := hone_of hone 2 f2 rfl
 obtain ⟨c0, c1, c2, rfl⟩ := list3 hlen
 have h0 := hf 0 f0 rfl
 have h1 := hf 1 f1 rfl
 have h2 := hf 2 f2 rfl
 rw [o0, k0] at h0; rw [o1, k1] at h1; rw [o2, k2] at h2
 have hxl' : xs.length = 3 := hxl
 obtain ⟨y0, y1, y2, rfl⟩ := list3 hxl'
 have e0' : DataW.trod enc1 Tryz.prog w base sp held n f0.type [c0] = some y0 := h0
 have e1' : DataW.trod enc1 Tryz.prog w base sp held n f1.type [c1] = some y1 := h1
 have e2' : DataW.trod enc1 Tryz.prog w base sp held n f2.type [c2] = some y2 := h2
 obtain ⟨K, e0, _, g0⟩ := DataW.trod_int u0 e0'
 obtain ⟨A, e1, _, g1⟩ := DataW.trod_int u1 e1'
 obtain ⟨s, e2, _, hs⟩ := DataW.trod_string u2 e2'
 injection e0 with e0
 injection e1 with e1
 injection e2 with e2
 subst e0 e1 e2
 exact ⟨⟨K, A, s⟩, rfl, ⟨wf_u8 g0, wf_i64 g1, hs⟩⟩
theorem open_ats {H : Type} {enc1 : TypeId × Value → H} {w : World} {base : Nat} {sp : Nat → Bool} {held : Bool} {fuel : Nat} {a : Option Addr} {len cap : Nat} {y : DataW H × List MemPlace}
  (h : DataW.trod enc1 Tryz.prog w base sp held fuel 25 [.slice a len cap] = some y) : ∃ l, IsAts w a len cap l := by
 rcases open_slice Tryz.underlying25 h with ⟨hcs, _⟩ | ⟨a', len', cap', m, n, D, Pl, hcs, hb, hl, hm, hmm, _, hi⟩
 ·simp at hcs
  obtain ⟨rfl, rfl, rfl⟩ := hcs
  exact ⟨[], rfl, Nat.zero_le _, .inl rfl, fun s hs => by cases hs⟩
 ·simp at hcs
  obtain ⟨rfl, rfl, rfl⟩ := hcs
  have hlm : len ≤ m := by rw [hmm]; split <;> omega
  have each : ∀ i, ∃ x : At, i < len → AtOk x ∧ ∀ j v, (enc x)[j]? = some v → w.cell? ((a'.add (i * 3)).add j) = some v := by
   intro i
   by_cases hil : i < len
   ·obtain ⟨cs', hc, ht⟩ := hi i (by omega)
    rw [atCells] at hc
    obtain ⟨x, rfl, hx⟩ := open_at ht
    obtain ⟨_, _, hcell⟩ := World.cells?_some hc
    refine ⟨x, fun _ => ⟨hx, fun j v hv => ?_⟩⟩
    have hj : j < 3 := by
     rcases Nat.lt_or_ge j 3 with h | h
     ·exact h
     ·rw [List.getElem?_eq_none (by simpa [enc] using h)] at hv; cases hv
    rw [hcell j hj, hv]
   ·exact ⟨default, fun h => absurd h hil⟩
  obtain ⟨R, hR⟩ := Classical.axiomOfChoice each
  have hlen : ((List.range len).map R).length = len := by simp
  refine ⟨(List.range len).map R, hlen, by omega, ?_, ?_⟩
  ·by_cases h0 : len = 0
   ·subst h0; exact .inl rfl
   ·obtain ⟨b, o, s⟩ := a'
    have h1 := (hR 0 (by omega)).2 0 _ rfl
    have hs : s = none := by
     have := World.cell?_spot h1
     simpa [Addr.add] using this
    subst hs
    refine .inr ⟨b, o, rfl, fun i hil => ?_⟩
    rw [hlen] at hil
    have hc := (hR i hil).2
    have hsel : aget ((List.range len).map R) i = R i := by
     unfold aget
     rw [List.getD_eq_getElem?_getD, List.getElem?_map, List.getElem?_range hil]
     rfl
    rw [hsel]
    have hadd : ∀ j, ((⟨b, o, none⟩ : Addr).add (i * 3)).add j = ⟨b, o + i * 3 + j, none⟩ := by
     intro j
     rw [Addr.add_lit, Addr.add_lit]
    refine ⟨?_, ?_, ?_⟩
    ·have := hc 0 _ rfl; rw [hadd] at this; exact this
    ·have := hc 1 _ rfl; rw [hadd] at this; exact this
    ·have := hc 2 _ rfl; rw [hadd] at this; exact this
  ·intro s hs
   obtain ⟨i, hi', rfl⟩ := List.mem_map.1 hs
   exact (hR i (List.mem_range.1 hi')).1
theorem IsAts.rd {w : World} {a : Option Addr} {n c : Nat} {l : List At} (h : IsAts w a n c l) : Rd w n a l := ⟨h.1, h.2.2.1, fun x hx => (h.2.2.2 x hx).x⟩
end Effect
end Go.Proofs.YtkfkpjngiffamaaGreatDoor
namespace Go.Proofs.YtkfkpjngiffamaaGreatDoor
open Go.RowKit Go.ChangeShapes Go.WideShapes Go.Deep
set_option linter.unusedVariables false
namespace Effect
theorem open_row2 {H : Type} {enc1 : TypeId × Value → H} {w : World} {base : Nat} {sp : Nat → Bool} {held : Bool} {fuel : Nat} {cs : List Value} {y : DataW H × List MemPlace} (h : DataW.trod enc1 Tryz.prog w base sp held fuel 25 cs = some y) : ∃ p l c r, cs = [.slice p l c] ∧ IsAts w p l c r ∧ (l ≤ c ∧ c ≤ maxLen) := by
 have h0 := h
 rcases DataW.trod_slice Tryz.underlying25 h with ⟨rfl, _⟩ | ⟨a, len, cap, elems, rest, n, hfuel, rfl, _, hb, hl, hm, _⟩
 ·exact ⟨none, 0, 0, [], rfl, ⟨rfl, Nat.zero_le _, .inl rfl, fun s hs => by cases hs⟩, by unfold maxLen; omega⟩
 ·obtain ⟨r, hr⟩ := open_ats h0
  exact ⟨_, _, _, r, rfl, hr, hl, hm⟩
end Effect
end Go.Proofs.YtkfkpjngiffamaaGreatDoor
namespace Go.Proofs.YtkfkpjngiffamaaGreatDoor
open Go.RowKit Go.ChangeShapes Go.WideShapes Go.Deep
set_option linter.unusedVariables false
namespace Rt
open Effect (At AtOk AtsAt Rd)

structure Hd where
 k : Int
 r : Int
 e : List At
inductive RT where
 | node : Hd → List RT → RT
def RT.h : RT → Hd
 | .node h _ => h
def RT.ks : RT → List RT
 | .node _ l => l
mutual
def wt : RT → Nat
 | .node _ l => wts l + 1
def wts : List RT → Nat
 | [] => 0
 | t :: ts => wt t + wts ts
end
theorem wt_pos (t : RT) : 0 < wt t := by cases t; unfold wt; omega
theorem wt_ks (t : RT) : wt t = wts t.ks + 1 := by cases t; unfold wt; rfl
theorem wts_nil : wts [] = 0 := by unfold wts; rfl
theorem wts_cons (t : RT) (ts : List RT) : wts (t :: ts) = wt t + wts ts := by conv => lhs; unfold wts
theorem wts_append : ∀ (ts us : List RT), wts (ts ++ us) = wts ts + wts us
 | [], us => by rw [wts_nil]; simp
 | t :: ts, us => by rw [List.cons_append, wts_cons, wts_cons, wts_append ts us]; omega
theorem wts_len : ∀ ts : List RT, ts.length ≤ wts ts
 | [] => by simp
 | t :: ts => by rw [wts_cons, List.length_cons]; have := wt_pos t; have := wts_len ts; omega
def tget (ts : List RT) (i : Nat) : RT := ts.getD i (.node ⟨0, 0, []⟩ [])
theorem tget_at {ts : List RT} {i : Nat} (h : i < ts.length) : ts[i]? = some (tget ts i) := by
 unfold tget
 rw [List.getD_eq_getElem?_getD, List.getElem?_eq_getElem h]
 rfl
theorem tget_mem {ts : List RT} {i : Nat} (h : i < ts.length) : tget ts i ∈ ts := List.mem_of_getElem? (tget_at h)
theorem wts_mem : ∀ {ts : List RT} {t : RT}, t ∈ ts → wt t ≤ wts ts
 | t :: ts, u, h => by
  rw [wts_cons]
  rcases List.mem_cons.1 h with rfl | h
  ·omega
  ·have := wts_mem h; omega
theorem wts_get {ts : List RT} {i : Nat} (h : i < ts.length) : wt (tget ts i) ≤ wts ts := wts_mem (tget_mem h)

def rcells (h : Hd) (pe : Option Addr) (ne ce : Nat) (p : Option Addr) (l c : Nat) : List Value := [.int .u8 h.k, .int .i64 h.r, .slice pe ne ce, .slice p l c]
structure HdOk (h : Hd) : Prop where
 k : 0 ≤ h.k ∧ h.k ≤ 255
 r : -9223372036854775808 ≤ h.r ∧ h.r ≤ 9223372036854775807
 e : ∀ x ∈ h.e, AtOk x
structure EffIs (w : World) (pe : Option Addr) (ne ce : Nat) (l : List At) : Prop where
 rd : Rd w ne pe l
 cap : ne ≤ ce ∧ ce ≤ maxLen
theorem EffIs.below {w W : World} {pe : Option Addr} {ne ce : Nat} {l : List At} (h : EffIs w pe ne ce l) (hb : Below w.heap.size w W) : EffIs W pe ne ce l := ⟨h.rd.below hb, h.cap⟩

inductive Kids (w : World) : Option Addr → List RT → Prop where
 | nokids (p : Option Addr) : Kids w p []
 | atkids (b o : Nat) (ts : List RT) (q : Nat → Option Addr) (c : Nat → Nat) (qe : Nat → Option Addr) (ce : Nat → Nat)
   (hh : ∀ i, i < ts.length → HdOk (tget ts i).h)
   (hc : ∀ i, i < ts.length → ∀ j v, (rcells (tget ts i).h (qe i) (tget ts i).h.e.length (ce i) (q i) (tget ts i).ks.length (c i))[j]? = some v → w.cell? ⟨b, o + i * 4 + j, none⟩ = some v)
   (hl : ∀ i, i < ts.length → (tget ts i).ks.length ≤ c i ∧ c i ≤ maxLen)
   (he : ∀ i, i < ts.length → EffIs w (qe i) (tget ts i).h.e.length (ce i) (tget ts i).h.e)
   (hk : ∀ i, i < ts.length → Kids w (q i) (tget ts i).ks) : Kids w (some ⟨b, o, none⟩) ts

structure RtIs (w : World) (h : Hd) (pe : Option Addr) (ne ce : Nat) (p : Option Addr) (l c : Nat) (t : RT) : Prop where
 head : t.h = h
 elen : h.e.length = ne
 len : t.ks.length = l
 ok : HdOk h
 eff : EffIs w pe ne ce h.e
 cap : l ≤ c ∧ c ≤ maxLen
 kids : Kids w p t.ks

theorem Kids.get {w : World} {p : Option Addr} {ts : List RT} (h : Kids w p ts) (i : Nat) (hi : i < ts.length) :
  ∃ b o q c qe ce, p = some ⟨b, o, none⟩ ∧ RtIs w (tget ts i).h qe (tget ts i).h.e.length ce q (tget ts i).ks.length c (tget ts i) ∧
   w.cell? ⟨b, o + i * 4, none⟩ = some (.int .u8 (tget ts i).h.k) ∧ w.cell? ⟨b, o + i * 4 + 1, none⟩ = some (.int .i64 (tget ts i).h.r) ∧ w.cell? ⟨b, o + i * 4 + 2, none⟩ = some (.slice qe (tget ts i).h.e.length ce) ∧ w.cell? ⟨b, o + i * 4 + 3, none⟩ = some (.slice q (tget ts i).ks.length c) := by
 cases h with
 | nokids => simp at hi
 | atkids b o _ q c qe ce hh hc hl he hk =>
  have hci := hc i hi
  exact ⟨b, o, q i, c i, qe i, ce i, rfl, ⟨rfl, rfl, rfl, hh i hi, he i hi, hl i hi, hk i hi⟩, hci 0 _ rfl, hci 1 _ rfl, hci 2 _ rfl, hci 3 _ rfl⟩
theorem Kids.stay {w W : World} {p : Option Addr} {ts : List RT} (h : Kids w p ts) (hb : Below w.heap.size w W) : Kids W p ts := by
 induction h with
 | nokids p => exact .nokids p
 | atkids b o ts q c qe ce hh hc hl he hk ih =>
  refine .atkids b o ts q c qe ce hh (fun i hi j v hv => ?_) hl (fun i hi => (he i hi).below hb) (fun i hi => ih i hi)
  have h0 := hc i hi j v hv
  exact (hb.cell (p := ⟨b, o + i * 4 + j, none⟩) (World.block_lt_of_cell? w _ h0)).trans h0
theorem RtIs.below {w W : World} {h : Hd} {pe : Option Addr} {ne ce : Nat} {p : Option Addr} {l c : Nat} {t : RT} (k : RtIs w h pe ne ce p l c t) (hb : Below w.heap.size w W) : RtIs W h pe ne ce p l c t := ⟨k.head, k.elen, k.len, k.ok, k.eff.below hb, k.cap, k.kids.stay hb⟩
theorem list4 {α : Type} {l : List α} (h : l.length = 4) : ∃ a b c d, l = [a, b, c, d] := by
 match l, h with
 | [a, b, c, d], _ => exact ⟨a, b, c, d, rfl⟩
theorem rtCells : Tryz.prog.cellsOf 28 = 4 := by kernel_rfl
theorem rtFields : ∃ f0 f1 f2 f3 : Field, Tryz.prog.underlying 28 = some (.struct #[f0, f1, f2, f3]) ∧ oneCellFields Tryz.prog #[f0, f1, f2, f3] = true ∧ Tryz.prog.underlying f0.type = some (.int .u8) ∧ Tryz.prog.underlying f1.type = some (.int .i64) ∧ f2.type = 25 ∧ f3.type = 26 :=
 ⟨_, _, _, _, Tryz.underlying28, by kernel_rfl, by kernel_rfl, by kernel_rfl, by kernel_rfl, by kernel_rfl⟩

section
variable {H : Type} {enc : TypeId × Value → H} {w : World} {base : Nat} {sp : Nat → Bool} {held : Bool}
theorem open_all : ∀ fuel : Nat,
  (∀ (cs : List Value) (y : DataW H × List MemPlace), DataW.trod enc Tryz.prog w base sp held fuel 28 cs = some y → ∃ h pe ne ce p l c t, cs = rcells h pe ne ce p l c ∧ RtIs w h pe ne ce p l c t) ∧
  (∀ (cs : List Value) (y : DataW H × List MemPlace), DataW.trod enc Tryz.prog w base sp held fuel 26 cs = some y → ∃ p l c ts, cs = [.slice p l c] ∧ ts.length = l ∧ l ≤ c ∧ c ≤ maxLen ∧ Kids w p ts) := by
 intro fuel
 induction fuel using Nat.strongRecOn with
 | _ fuel ih =>
  constructor
  ·intro cs y h
   obtain ⟨f0, f1, f2, f3, hu, hone, u0, u1, t2, t3⟩ := rtFields
   obtain ⟨xs, n, hfuel, _, hlen, hxl, hf⟩ := DataW.trod_struct hu h
   rw [rtCells] at hlen
   obtain ⟨c0, c1, c2, c3, rfl⟩ := list4 hlen
   have hxl' : xs.length = 4 := hxl
   obtain ⟨y0, y1, y2, y3, rfl⟩ := list4 hxl'
   obtain ⟨o0, k0⟩ := hone_of hone 0 f0 rfl
   obtain ⟨o1, k1⟩ := hone_of hone 1 f1 rfl
   obtain ⟨o2, k2⟩ := hone_of hone 2 f2 rfl
   obtain ⟨o3, k3⟩ := hone_of hone 3 f3 rfl
   have h0 := hf 0 f0 rfl
   have h1 := hf 1 f1 rfl
   have h2 := hf 2 f2 rfl
   have h3 := hf 3 f3 rfl
   rw [o0, k0] at h0; rw [o1, k1] at h1; rw [o2, k2] at h2; rw [o3, k3] at h3
   have e0 : DataW.trod enc Tryz.prog w base sp held n f0.type [c0] = some y0 := h0
   have e1 : DataW.trod enc Tryz.prog w base sp held n f1.type [c1] = some y1 := h1
   have e2 : DataW.trod enc Tryz.prog w base sp held n f2.type [c2] = some y2 := h2
   have e3 : DataW.trod enc Tryz.prog w base sp held n f3.type [c3] = some y3 := h3
   rw [t2] at e2
   rw [t3] at e3
   obtain ⟨K, r0, _, g0⟩ := DataW.trod_int u0 e0
   obtain ⟨O, r1, _, g1⟩ := DataW.trod_int u1 e1
   injection r0 with r0; injection r1 with r1
   subst r0 r1
   obtain ⟨pe, ne, ce, es, hcs2, hes, hcap⟩ := Effect.open_row2 e2
   injection hcs2 with hcs2
   subst hcs2
   obtain ⟨p, l, c, ts, hcs1, hl, hlc, hcm, hk⟩ := (ih n (by omega)).2 _ _ e3
   injection hcs1 with hcs1
   subst hcs1
   exact ⟨⟨K, O, es⟩, pe, ne, ce, p, l, c, .node ⟨K, O, es⟩ ts, rfl, ⟨rfl, hes.1, hl, ⟨Effect.wf_u8 g0, Effect.wf_i64 g1, hes.2.2.2⟩, ⟨hes.rd, hcap⟩, ⟨hlc, hcm⟩, hk⟩⟩
  ·intro cs y h
   rcases DataW.trod_slice Tryz.underlying26 h with ⟨rfl, _⟩ | ⟨a, len, cap, elems, rest, n, hfuel, rfl, _, hb, hl, hm, hlen, hel, _, _⟩
   ·exact ⟨none, 0, 0, [], rfl, rfl, Nat.le_refl _, by unfold maxLen; omega, Kids.nokids _⟩
   ·have each : ∀ i, i < len → ∃ h pe ne ce q l c t, RtIs w h pe ne ce q l c t ∧ ∀ j v, (rcells h pe ne ce q l c)[j]? = some v → w.cell? ((a.add (i * 4)).add j) = some v := by
     intro i hi
     have he := hel i hi
     rw [rtCells, List.getElem?_eq_getElem (by omega)] at he
     obtain ⟨cs', hc, ht⟩ := Option.bind_eq_some_iff.1 he
     obtain ⟨h, pe, ne, ce, q, l, c, t, rfl, hT⟩ := (ih n (by omega)).1 _ _ ht
     obtain ⟨_, _, hcell⟩ := World.cells?_some hc
     refine ⟨h, pe, ne, ce, q, l, c, t, hT, fun j v hv => ?_⟩
     have hj : j < 4 := by
      rcases Nat.lt_or_ge j 4 with h | h
      ·exact h
      ·rw [List.getElem?_eq_none (by simpa [rcells] using h)] at hv; cases hv
     rw [hcell j hj, hv]
    have each' : ∀ i, ∃ r : Option Addr × Nat × Option Addr × Nat × RT, i < len → RtIs w r.2.2.2.2.h r.2.2.1 r.2.2.2.2.h.e.length r.2.2.2.1 r.1 r.2.2.2.2.ks.length r.2.1 r.2.2.2.2 ∧ ∀ j v, (rcells r.2.2.2.2.h r.2.2.1 r.2.2.2.2.h.e.length r.2.2.2.1 r.1 r.2.2.2.2.ks.length r.2.1)[j]? = some v → w.cell? ((a.add (i * 4)).add j) = some v := by
     intro i
     by_cases hi : i < len
     ·obtain ⟨h, pe, ne, ce, q, l, c, t, hT, hc⟩ := each i hi
      have e1 := hT.head
      have e2 := hT.len
      have e3 := hT.elen
      subst e1 e2 e3
      exact ⟨(q, c, pe, ce, t), fun _ => ⟨hT, hc⟩⟩
     ·exact ⟨(none, 0, none, 0, .node ⟨0, 0, []⟩ []), fun h => absurd h hi⟩
    obtain ⟨R, hR⟩ := Classical.axiomOfChoice each'
    obtain ⟨F, hFd⟩ : ∃ F : Nat → RT, F = fun i => (R i).2.2.2.2 := ⟨_, rfl⟩
    obtain ⟨Q, hQd⟩ : ∃ Q : Nat → Option Addr, Q = fun i => (R i).1 := ⟨_, rfl⟩
    obtain ⟨C, hCd⟩ : ∃ C : Nat → Nat, C = fun i => (R i).2.1 := ⟨_, rfl⟩
    obtain ⟨QE, hQEd⟩ : ∃ Q : Nat → Option Addr, Q = fun i => (R i).2.2.1 := ⟨_, rfl⟩
    obtain ⟨CE, hCEd⟩ : ∃ C : Nat → Nat, C = fun i => (R i).2.2.2.1 := ⟨_, rfl⟩
    have hF : ∀ i, i < len → RtIs w (F i).h (QE i) (F i).h.e.length (CE i) (Q i) (F i).ks.length (C i) (F i) ∧ ∀ j v, (rcells (F i).h (QE i) (F i).h.e.length (CE i) (Q i) (F i).ks.length (C i))[j]? = some v → w.cell? ((a.add (i * 4)).add j) = some v := by
     subst hFd hQd hCd hQEd hCEd
     exact hR
    have hlen' : ((List.range len).map F).length = len := by simp
    have hget : ∀ i, i < len → tget ((List.range len).map F) i = F i := by
     intro i hi
     unfold tget
     rw [List.getD_eq_getElem?_getD, List.getElem?_map, List.getElem?_range hi]
     rfl
    refine ⟨some a, len, cap, (List.range len).map F, rfl, hlen', hl, hm, ?_⟩
    by_cases h0 : len = 0
    ·subst h0; exact .nokids _
    ·obtain ⟨b, o, s⟩ := a
     have h1 := (hF 0 (by omega)).2 0 _ rfl
     have hs : s = none := by
      have := World.cell?_spot h1
      simpa [Addr.add] using this
     subst hs
     refine .atkids b o _ Q C QE CE (fun i hi => ?_) (fun i hi j v hv => ?_) (fun i hi => ?_) (fun i hi => ?_) (fun i hi => ?_)
     ·rw [hlen'] at hi; rw [hget i hi]; exact (hF i hi).1.ok
     ·rw [hlen'] at hi; rw [hget i hi] at hv
      have := (hF i hi).2 j v hv
      rw [Addr.add_lit, Addr.add_lit] at this
      exact this
     ·rw [hlen'] at hi; rw [hget i hi]; exact (hF i hi).1.cap
     ·rw [hlen'] at hi; rw [hget i hi]; exact (hF i hi).1.eff
     ·rw [hlen'] at hi; rw [hget i hi]; exact (hF i hi).1.kids
end
theorem drop_tget (ts : List RT) (k : Nat) (h : k < ts.length) : ts.drop k = tget ts k :: ts.drop (k + 1) := by
 rw [List.drop_eq_getElem_cons h]
 have := tget_at h
 rw [List.getElem?_eq_getElem h] at this
 rw [Option.some.inj this]
theorem take_tget (ts : List RT) (k : Nat) (h : k < ts.length) : ts.take (k + 1) = ts.take k ++ [tget ts k] := by
 rw [List.take_add_one, tget_at h]; rfl
theorem wts_take_le : ∀ (ts : List RT) (k : Nat), wts (ts.take k) ≤ wts ts
 | [], k => by simp
 | t :: ts, 0 => by rw [List.take_zero, wts_nil]; omega
 | t :: ts, k + 1 => by rw [List.take_succ_cons, wts_cons, wts_cons]; have := wts_take_le ts k; omega
theorem wts_drop (ts : List RT) (j : Nat) (h : j < ts.length) : wts (ts.drop j) = wt (tget ts j) + wts (ts.drop (j + 1)) := by
 rw [drop_tget ts j h, wts_cons]

section
variable {H : Type} {enc : TypeId × Value → H} {w : World} {base : Nat} {sp : Nat → Bool} {held : Bool}
end
end Rt
end Go.Proofs.YtkfkpjngiffamaaGreatDoor
namespace Go.Proofs.YtkfkpjngiffamaaGreatDoor
open Go.RowKit
set_option linter.unusedVariables false
set_option linter.unusedSimpArgs false
namespace Effect

set_option maxHeartbeats 3200000 in
theorem refAtom_walk (a : At) (w : World) (hx : a.x.size ≤ maxLen) : Calls Tryz.prog 52 #[.agg #[.int .u8 a.k, .int .i64 a.r, .string a.x]] w fun e w' => e = .returned (.bool (atomB a)) ∧ Below w.heap.size w w' := by
 have hat : ∀ b, atomB a = b → atomB a = b := fun b h => h
 have hdef : atomB a = atomB a := rfl
 have HB := Lib.hid (fun O => al_new (W := w) O)
 by_cases h3 : a.k = 3
 ·by_cases hr : a.r = 0
  ·have ha : Words.exnB a.x = atomB a := by unfold atomB; rw [if_pos h3, hr]; simp
   have hex := fun W => Words.refExn_walk a.x W hx
   obtain ⟨k, r, x⟩ := a
   simp only at h3 hr ha hex
   subst h3 hr
   have HE := Lib.hid hex; have HA := Lib.hid ha
   clear hex hat hdef hx ha
   go_enter Tryz.func52, Tryz.ntmps52
   go_wp2_with (fail)
   refine (HE.out _).mono ?_
   rintro e w1 ⟨rfl, hb1⟩
   have H1 := Lib.hid (below_then (HB.out _) hb1 (by simp))
   clear hb1
   go_wp2_with (fail)
   go_ret
   exact ⟨ret_bool HA.out, H1.out⟩
  ·have ha : false = atomB a := by unfold atomB; rw [if_pos h3, decide_eq_false hr]; simp
   obtain ⟨k, r, x⟩ := a
   simp only at h3 hr ha
   subst h3
   have hr1 : (r == 0) = false := by simpa using hr
   have HA := Lib.hid ha
   clear hat hdef hx ha hr
   go_enter Tryz.func52, Tryz.ntmps52
   go_wp2_with (fail)
   go_ret
   exact ⟨ret_bool HA.out, HB.out _⟩
 ·by_cases h12 : a.k = 1 ∨ a.k = 2
  ·by_cases hr : a.r < 0
   ·have ha : false = atomB a := by unfold atomB; rw [if_neg h3, decide_eq_false (show ¬ 0 ≤ a.r by omega)]; simp
    obtain ⟨k, r, x⟩ := a
    simp only at h12 hr ha
    have HA := Lib.hid ha
    clear hat hdef hx ha h3
    rcases h12 with rfl | rfl
    all_goals
     go_enter Tryz.func52, Tryz.ntmps52
     go_wp2_with (fail)
     go_ret
     exact ⟨ret_bool HA.out, HB.out _⟩
   ·have ha : a.x.toList.isEmpty = atomB a := by unfold atomB; rw [if_neg h3, ← emp a.x, decide_eq_true (show 0 ≤ a.r by omega)]; rcases h12 with h | h <;> rw [h] <;> simp
    obtain ⟨k, r, x⟩ := a
    simp only at h12 hr ha
    have HA := Lib.hid ha
    clear hat hdef hx ha h3
    rcases h12 with rfl | rfl
    all_goals
     go_enter Tryz.func52, Tryz.ntmps52
     go_wp2_with (fail)
     go_ret
     exact ⟨ret_bool HA.out, HB.out _⟩
  ·have ha : false = atomB a := by unfold atomB; rw [if_neg h3, decide_eq_false (show ¬ a.k = 1 by omega), decide_eq_false (show ¬ a.k = 2 by omega)]; rfl
   obtain ⟨k, r, x⟩ := a
   simp only at h12 h3 ha
   have h1' : (k == 1) = false := by simp; omega
   have h2' : (k == 2) = false := by simp; omega
   have h3' : (k == 3) = false := by simp; omega
   have HA := Lib.hid ha
   clear hat hdef hx ha h3 h12
   go_enter Tryz.func52, Tryz.ntmps52
   go_wp2_with (fail)
   go_ret
   exact ⟨ret_bool HA.out, HB.out _⟩
theorem below_q {B : Nat} {w W : World} (h : Below B w W) : Below B w W.drew := ⟨h.os, h.tape, h.output, h.size, h.block⟩
set_option maxRecDepth 100000 in
set_option maxHeartbeats 6400000 in
theorem in_walk {n c : Nat} {a : Option Addr} {l : List At} {w : World} (h : Rd w n a l) (x : At) (hn : n ≤ 100000) : Calls Tryz.prog 53 #[.slice a n c, .agg #[.int .u8 x.k, .int .i64 x.r, .string x.x]] w fun e w' => e = .returned (.bool (decide (x ∈ l))) ∧ Below w.heap.size w w' := by
 have mixed : Tryz.prog.follows .mixedOrders = true := by kernel_rfl
 have HEQ := Lib.hid eqIn
 have HGD := Lib.hid (show ∀ (op : BinOp) (u v : Operand) (a b : At) (w : World), (eqGuard op 67 u v (.agg #[.int .u8 a.k, .int .i64 a.r, .string a.x]) (.agg #[.int .u8 b.k, .int .i64 b.r, .string b.x])).run Tryz.prog w = .ok () w from fun op u v a b w => eqAt.2 op u v a b w)
 have H := Lib.hid h
 have HB := Lib.hid (fun O => al_new (W := w) O)
 clear h
 go_enter Tryz.func53, Tryz.ntmps53
 go_wp2_with (fail)
 have HN := Lib.hid fun O => heap_alloc_new w O
 go_loopg [5, 8] n (fun gh _ i wr => ∃ j q : Nat, j ≤ n ∧ n - j ≤ gh ∧ i = .int .i64 (j : Int) ∧ wr = (w.alloc (.cells #[.int .u8 x.k, .int .i64 x.r, .string x.x] 67)).drewN q ∧ Hid (x ∉ l.take j))
 case atStart => exact ⟨0, 0, Nat.zero_le _, by omega, rfl, rfl, Lib.hid (by simp)⟩
 case round =>
  obtain ⟨j, q, hj, hgh, rfl, rfl, HA⟩ := hrel
  have hbb : ∀ O : Obj, Below w.heap.size w ((w.alloc O).drewN q) := fun O => ⟨rfl, rfl, rfl, (al_new O).size, (al_new O).block⟩
  have HBB := Lib.hid hbb
  clear hbb
  by_cases hlt : j < n
  ·have hjl : j < l.length := by rw [H.out.len]; exact hlt
   obtain ⟨b, o, rfl, a0, a1, a2⟩ := (H.out.at_.below (al_new (.cells #[.int .u8 x.k, .int .i64 x.r, .string x.x] 67))).get j hjl
   obtain ⟨⟨b0, b1, b2⟩, -, -⟩ := c3 (HN.out (.cells #[.int .u8 x.k, .int .i64 x.r, .string x.x] 67))
   have htk := at_take l j hjl
   have hmem := aget_mem hjl
   generalize aget l j = y at *
   have HTK := Lib.hid htk; have HMEM := Lib.hid hmem
   have hgd := HGD.out
   have hq := HEQ.out y x
   simp only [enc] at hq
   clear htk hmem hjl
   by_cases he : y = x
   ·have hd : decide (y = x) = true := decide_eq_true he
    rw [hd] at hq
    have HD := Lib.hid he
    clear hd he
    go_wp2_with (fail)
    go_region_o
    clear hgd hq a0 a1 a2 b0 b1 b2
    go_wp2_with (fail)
    go_ret
    exact ⟨ret_bool (decide_eq_true (by rw [← HD.out]; exact HMEM.out)).symm, below_q (HBB.out _)⟩
   ·have hd : decide (y = x) = false := decide_eq_false he
    rw [hd] at hq
    have HD := Lib.hid he
    clear hd he
    go_wp2_with (fail)
    go_region_o
    clear hgd hq a0 a1 a2 b0 b1 b2
    go_wp2_with (fail)
    go_roundg (n - (j + 1))
    case measure => omega
    case rel => exact ⟨j + 1, q + 1, by omega, by omega, by go_num, rfl, Lib.hid (by rw [HTK.out]; simp only [List.mem_append, List.mem_singleton, not_or]; exact ⟨HA.out, fun e => HD.out e.symm⟩)⟩
  ·obtain rfl : j = n := by omega
   have hno : x ∉ l := by
    have := HA.out
    rw [List.take_of_length_le (by rw [H.out.len]; exact Nat.le_refl _)] at this
    exact this
   have HNO := Lib.hid hno
   clear hno
   go_wp2_with (fail)
   go_ret
   exact ⟨ret_bool (decide_eq_false HNO.out).symm, HBB.out _⟩
end Effect
end Go.Proofs.YtkfkpjngiffamaaGreatDoor
namespace Go.Proofs.YtkfkpjngiffamaaGreatDoor
open Go.RowKit
set_option linter.unusedVariables false
set_option linter.unusedSimpArgs false
namespace Effect

theorem ins_no {x : At} : ∀ {l : List At}, (∀ y ∈ l, lessA x y = false) → insA x l = l ++ [x]
 | [], _ => rfl
 | y :: l, h => by
  unfold insA
  rw [if_neg (by rw [h y (by simp)]; simp), ins_no fun z hz => h z (by simp [hz])]
  rfl
theorem ins_at {x z : At} : ∀ {l : List At}, (∀ y ∈ l, lessA x y = false) → lessA x z = true → insA x (l ++ [z]) = l ++ [x] ++ [z]
 | [], _, hz => by simp [insA, hz]
 | y :: l, h, hz => by
  rw [List.cons_append]
  unfold insA
  rw [if_neg (by rw [h y (by simp)]; simp), ins_at (fun z hz => h z (by simp [hz])) hz]
  rfl
theorem ins_yes {x : At} {m : List At} : ∀ {l : List At}, (∃ y ∈ l, lessA x y = true) → insA x (l ++ m) = insA x l ++ m
 | [], h => by obtain ⟨y, hy, _⟩ := h; cases hy
 | y :: l, h => by
  rw [List.cons_append]
  unfold insA
  split
  ·rfl
  ·rename_i hn
   rw [ins_yes (l := l) (by
    obtain ⟨z, hz, h1⟩ := h
    rcases List.mem_cons.1 hz with rfl | hz
    ·exact absurd h1 hn
    ·exact ⟨z, hz, h1⟩)]
   rfl
def InsAt (x : At) (d : Bool) (l o : List At) : Prop := (d = false ∧ o = l ∧ ∀ y ∈ l, lessA x y = false) ∨ (d = true ∧ o = insA x l ∧ ∃ y ∈ l, lessA x y = true)
theorem InsAt.len {x : At} {d : Bool} {l o : List At} (h : InsAt x d l o) : o.length ≤ l.length + 1 := by
 rcases h with ⟨_, rfl, _⟩ | ⟨_, rfl, _⟩
 ·omega
 ·have h3 : ∀ y : List At, (insA x y).length = y.length + 1 := fun y => by
   induction y with
   | nil => rfl
   | cons z y ih2 => unfold insA; split <;> simp [ih2]
  rw [h3]; exact Nat.le_refl _
theorem InsAt.len_no {x : At} {l o : List At} (h : InsAt x false l o) : o.length = l.length := by
 rcases h with ⟨_, rfl, _⟩ | ⟨h, _⟩
 ·rfl
 ·cases h
theorem InsAt.step_no {x z : At} {l o : List At} (h : InsAt x false l o) (hz : lessA x z = false) : InsAt x false (l ++ [z]) (o ++ [z]) := by
 rcases h with ⟨_, rfl, h⟩ | ⟨h, _⟩
 ·exact .inl ⟨rfl, rfl, fun y hy => by
   rcases List.mem_append.1 hy with hy | hy
   ·exact h y hy
   ·rw [List.mem_singleton] at hy; rw [hy]; exact hz⟩
 ·cases h
theorem InsAt.step_at {x z : At} {l o : List At} (h : InsAt x false l o) (hz : lessA x z = true) : InsAt x true (l ++ [z]) (o ++ [x] ++ [z]) := by
 rcases h with ⟨_, rfl, h⟩ | ⟨h, _⟩
 ·exact .inr ⟨rfl, (ins_at h hz).symm, z, by simp, hz⟩
 ·cases h
theorem InsAt.step_yes {x z : At} {l o : List At} (h : InsAt x true l o) : InsAt x true (l ++ [z]) (o ++ [z]) := by
 rcases h with ⟨h, _⟩ | ⟨_, rfl, h⟩
 ·cases h
 ·refine .inr ⟨rfl, (ins_yes h).symm, ?_⟩
  obtain ⟨y, hy, h1⟩ := h
  exact ⟨y, by simp [hy], h1⟩
theorem InsAt.end_no {x : At} {l o : List At} (h : InsAt x false l o) : o ++ [x] = insA x l := by
 rcases h with ⟨_, rfl, h⟩ | ⟨h, _⟩
 ·exact (ins_no h).symm
 ·cases h
theorem InsAt.end_yes {x : At} {l o : List At} (h : InsAt x true l o) : o = insA x l := by
 rcases h with ⟨h, _⟩ | ⟨_, h, _⟩
 ·cases h
 ·exact h
theorem putA_no {e : List At} {x : At} (h : atomB x = false ∨ x ∈ e) : putA e x = e := by
 unfold putA
 rw [if_neg]
 rintro ⟨h1, h2⟩
 rcases h with h | h
 ·rw [h] at h1; cases h1
 ·exact h2 h
theorem putA_yes {e : List At} {x : At} (h : atomB x = true) (h2 : x ∉ e) : putA e x = insA x e := by
 unfold putA; rw [if_pos ⟨h, h2⟩]
set_option maxHeartbeats 3200000 in
theorem less_walk (a b : At) (w : World) : Calls Tryz.prog 57 #[.agg #[.int .u8 a.k, .int .i64 a.r, .string a.x], .agg #[.int .u8 b.k, .int .i64 b.r, .string b.x]] w fun e w' => e = .returned (.bool (lessA a b)) ∧ Below w.heap.size w w' := by
 have hb2 : ∀ O O', Below w.heap.size w ((w.alloc O).alloc O') := fun O O' => (al_new O).alloc (by simp) O'
 have HB := Lib.hid hb2
 have hbx := fun O O' => at_more (w := w.alloc O) (o := O) (o' := O') (N := w.heap.size) (at_new rfl)
 clear hb2
 by_cases hk : a.k = b.k
 ·by_cases hr : a.r = b.r
  ·have hl : Op.bytesLess a.x.toList b.x.toList = lessA a b := by unfold lessA; rw [if_pos hk, if_pos hr]; rfl
   obtain ⟨k, r, x⟩ := a
   obtain ⟨k', r', x'⟩ := b
   simp only at hk hr hl
   subst hk hr
   have hk0 : (k == k) = true := by simp
   have hr0 : (r == r) = true := by simp
   have HL := Lib.hid hl
   clear hl
   go_enter Tryz.func57, Tryz.ntmps57
   go_wp2_with (fail)
   go_ret
   exact ⟨ret_bool HL.out, HB.out _ _⟩
  ·have hl : decide (a.r < b.r) = lessA a b := by unfold lessA; rw [if_pos hk, if_neg hr]
   obtain ⟨k, r, x⟩ := a
   obtain ⟨k', r', x'⟩ := b
   simp only at hk hr hl
   subst hk
   have hk0 : (k == k) = true := by simp
   have hr0 : (r == r') = false := by simpa using hr
   have HL := Lib.hid hl
   clear hl hr
   go_enter Tryz.func57, Tryz.ntmps57
   go_wp2_with (fail)
   go_ret
   exact ⟨ret_bool HL.out, HB.out _ _⟩
 ·have hl : decide (a.k < b.k) = lessA a b := by unfold lessA; rw [if_neg hk]
  obtain ⟨k, r, x⟩ := a
  obtain ⟨k', r', x'⟩ := b
  simp only at hk hl
  have hk0 : (k == k') = false := by simpa using hk
  have HL := Lib.hid hl
  clear hl hk
  go_enter Tryz.func57, Tryz.ntmps57
  go_wp2_with (fail)
  go_ret
  exact ⟨ret_bool HL.out, HB.out _ _⟩
end Effect
end Go.Proofs.YtkfkpjngiffamaaGreatDoor
