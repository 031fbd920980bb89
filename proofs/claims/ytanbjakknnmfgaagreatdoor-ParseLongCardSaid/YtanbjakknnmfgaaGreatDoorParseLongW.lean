/- The walk of layer 5's statement on long texts. -/
import Derived.Test.YtanbjakknnmfgaaGreatDoorParseAwake
import Derived.Test.YtanbjakknnmfgaaGreatDoorGParseJ
import Derived.Lib.FrozenHead
import Derived.Lib.SlBytesConst
import Derived.LoopTactic
import Derived.OwnWalk
import Derived.Test.YtanbjakknnmfgaaGreatDoorGTermB
namespace Go.Proofs.YtanbjakknnmfgaaGreatDoor
open Go.RowKit
set_option linter.unusedVariables false
set_option linter.unusedSimpArgs false
namespace Parse
open Token (Tok tel ToksAt BytesIn LexEnd lex endT)
open Term (Tm Hd TmIs Kids ret_bool ret_i64 Reads veil Flat tcells tget)
open Chars (bytes_new Bytes)

def vals (xs : List Int) : List Value := xs.map (Value.int .u8)
theorem rep_snoc : ∀ m : Nat, rep m ++ [32, 45, 32, 120] = rep (m + 1)
  | 0 => rfl
  | m + 1 => by show 32 :: 45 :: 32 :: 120 :: (rep m ++ [32, 45, 32, 120]) = 32 :: 45 :: 32 :: 120 :: rep (m + 1); rw [rep_snoc m]
theorem rep_bytes : ∀ m : Nat, Bytes (rep m)
  | 0 => fun x hx => by cases hx
  | m + 1 => fun x hx => by
    have h : x = 32 ∨ x = 45 ∨ x = 32 ∨ x = 120 ∨ x ∈ rep m := by
      have h' : x ∈ 32 :: 45 :: 32 :: 120 :: rep m := hx
      simpa using h'
    rcases h with rfl | rfl | rfl | rfl | h
    · omega
    · omega
    · omega
    · omega
    · exact rep_bytes m x h
theorem vals_len (m : Nat) : (vals (120 :: rep m)).length = 4 * m + 1 := by unfold vals; rw [List.length_map, long_len]
def sMinus : ByteArray := ⟨#[32, 45, 32, 120]⟩
theorem strMinus : Lib.strCells sMinus = vals [32, 45, 32, 120] := by kernel_rfl
/-- The text so far, in a row of the call's own: the constant's one, or one that has grown. -/
def XAt (H k : Nat) (v : Value) (w : World) : Prop :=
  ∃ g c, v = .slice (some ⟨g, 0, none⟩) (4 * k + 1) c ∧ H ≤ g ∧ g < w.heap.size ∧ c ≤ maxLen ∧ 4 * k + 1 ≤ c ∧ (∀ j u, (vals (120 :: rep k))[j]? = some u → w.cell? ⟨g, j, none⟩ = some u) ∧
    ((k = 0 ∧ c = 1) ∨ w.ownsRowF H 5 1 v (4 * k + 1) (vals (120 :: rep k)))
theorem XAt.of_own {H k : Nat} {v : Value} {w : World} (h : w.ownsRowF H 5 1 v (4 * k + 1) (vals (120 :: rep k))) : XAt H k v w := by
  have h' := h
  rcases h.2 with ⟨_, h0⟩ | ⟨g, cap, cur, fz, rfl, hb, hg, _, hnc, hcm, _, _⟩
  · omega
  · refine ⟨g, cap, rfl, hb, lt_of_block hg, hcm, hnc, fun j u hu => ?_, .inr h'⟩
    have := h'.cells (g := g) rfl j u hu
    rw [Addr.add_lit] at this
    simpa using this
theorem add0 (g j : Nat) : (⟨g, 0, none⟩ : Addr).add j = ⟨g, j, none⟩ := by unfold Addr.add; split <;> simp_all
/-- One more difference is appended. -/
theorem append_x {P : Program} {w : World} {ops : Array Oper} {rest : List Oper} {o : Oper} {a : Act} {Q : Exit → Act → World → Prop} (hgd : o.guard = none) (sl x : Operand) (t u : TypeId)
    (ho : o.op = .call { callee := .builtin .append, args := #[sl, x], argTypes := #[t, u] })
    (H : Nat) (i : TypeInfo) (ht : P.underlying t = some (.slice 5)) (hu : P.underlying u = some .string) (hi : P.info? 5 = some i) (hz : i.zero = some (.int .u8 0)) (hsize : i.size = 1) (hby : i.bytes = 1)
    (v : Value) (k : Nat) (hs : a.eval sl = v) (hX : XAt H k v w) (hx : a.eval x = .string sMinus) (hk : k ≤ 10000) (hH : H ≤ w.heap.size)
    (h : ∀ v' w', XAt H (k + 1) v' w' → w.grownBy w' v.ownBlock → wpList P ops Q rest (a.put o.dst v') w') : wpList P ops Q (o :: rest) a w := by
  have hnew : vals (120 :: rep k) ++ Lib.strCells sMinus = vals (120 :: rep (k + 1)) := by
    rw [strMinus]
    unfold vals
    rw [← List.map_append, List.cons_append, rep_snoc]
  obtain ⟨g, c, rfl, hHg, hgl, hcm, hlc, hcells, hown⟩ := hX
  rcases hown with ⟨rfl, rfl⟩ | hown
  · refine wpList_plain hgd fun K hK => ?_
    have hr := Lib.run_append_grow_string (P := P) w t u o.type 5 i (.int .u8 0) ht hu hi hz ⟨g, 0, none⟩ 1 1 (vals (120 :: rep 0)) (by rw [hsize]; rfl) (fun j v hv => by rw [add0]; exact hcells j v hv) sMinus (by decide) (by decide) (by rw [hby]; exact growslice_fits (by decide) (by decide))
    unfold Oper.wp
    simp only [execOp, ho, resolve, invoke, builtin, Sem.run_bind, Sem.run_pure, Result.andThen_ok, List.map_toArray, List.map_cons, List.map_nil, hs, hx]
    rw [show (4 * 0 + 1 : Nat) = 1 from rfl, hr]
    refine hK _ _ (h _ _ (XAt.of_own ⟨by rw [vals_len, Nat.mul_one], .inr ⟨w.heap.size, _, _, (0, 0), rfl, hH, heap_alloc_new w.drew _, Nat.zero_le _, ?_, ?_, ?_, ?_⟩⟩) ⟨rfl, rfl, rfl, by simp, fun _ hq _ => heap_alloc_old w.drew _ hq⟩)
    · exact grownCap_ge w _ _ _
    · exact grownCap_le_maxLen w _ _ _ (by decide)
    · have hge := grownCap_ge w (1 + sMinus.size) 1 5
      have h4 : sMinus.size = 4 := rfl
      have hz1 : (Value.int IntKind.u8 0).cells.size = 1 := rfl
      have hsl : (Lib.strCells sMinus).length = 4 := by rw [strMinus]; rfl
      have hv1 : (vals (120 :: rep 0)).length = 1 := rfl
      simp only [Array.size_append, List.size_toArray, size_zeroCells, hz1, hsl, hv1]
      omega
    · rw [← hnew]
      simp only [Array.toList_append, List.append_assoc]
      rw [← List.append_assoc]
      have hl : (4 * (0 + 1) + 1) * 1 = (vals (120 :: rep 0) ++ Lib.strCells sMinus).length := by rw [hnew, vals_len]
      rw [hl]
      exact List.take_left
  · refine Lib.wpList_append_own_stringF w hgd sl x t u ho H 5 i ht hu hi hz hsize hby _ (4 * k + 1) _ hs hown sMinus hx ?_ ?_ hH ?_
    · have h4 : sMinus.size = 4 := rfl
      unfold maxLen
      omega
    · have h4 : sMinus.size = 4 := rfl
      omega
    · intro v' w' h1 h2 _
      rw [hnew] at h1
      exact h v' w' (XAt.of_own h1) h2
theorem infoByte : (Tryz.prog.info? 5).map (fun i => (i.zero, i.size, i.bytes)) = some (some (.int .u8 0), 1, 1) := by kernel_rfl
theorem XAt.bytes {H k : Nat} {v : Value} {w : World} (h : XAt H k v w) : ∃ g c, v = .slice (some ⟨g, 0, none⟩) (4 * k + 1) c ∧ H ≤ g ∧ BytesIn w (some ⟨g, 0, none⟩) (4 * k + 1) c (120 :: rep k) := by
  obtain ⟨g, c, rfl, hH, _, hcm, hlc, hcells, _⟩ := h
  refine ⟨g, c, rfl, hH, long_len k, hlc, hcm, .inr ⟨g, 0, rfl, fun i hi => ?_⟩, fun x hx => ?_⟩
  · rw [Nat.zero_add]
    refine hcells i _ ?_
    unfold vals
    rw [List.getElem?_map, List.getElem?_eq_getElem hi, List.getD_eq_getElem?_getD, List.getElem?_eq_getElem hi]
    rfl
  · rcases List.mem_cons.1 hx with rfl | hx
    · omega
    · exact rep_bytes k x hx
theorem long_shape (m : Nat) (T : List Tok) (a : Tm) : ∃ pl b, tail T (m + 1) 0 a = .node ⟨9, 2, pl, 0, ⟨#[]⟩, ⟨#[]⟩, ⟨#[]⟩⟩ [b, varT T (2 * (0 + m + 1))] := by
  rw [tail_last]
  exact ⟨_, _, rfl⟩

set_option maxRecDepth 100000 in
set_option maxHeartbeats 12800000 in
theorem parseLong_walk (c : Int) (h0 : 0 ≤ c) (h1 : c ≤ 255) (w : World) (hl : Words.Laid2 w) :
    Calls Tryz.prog 5 #[.int .u8 c] w fun e w' => e = .returned (.bool true) ∧ Below w.heap.size w w' := by
  obtain ⟨i0, hi, hz0, hz1, hz2⟩ := info_parts infoByte
  have HI := Lib.hid hi; have HZ0 := Lib.hid hz0; have HZ1 := Lib.hid hz1; have HZ2 := Lib.hid hz2
  have HL := Lib.hid hl
  obtain ⟨D, hD⟩ : ∃ D : Int, D = c % 4 := ⟨_, rfl⟩
  have hD0 : 0 ≤ D := by omega
  have hD3 : D ≤ 3 := by omega
  obtain ⟨M, hM⟩ : ∃ M : Nat, (M : Int) = 1999 + D := ⟨(1999 + D).toNat, by omega⟩
  have hmod : c.tmod 4 = D := by rw [Int.tmod_eq_emod_of_nonneg h0, hD]
  have wr8 : IntKind.u8.wrap D = D := by
    have hh : D = 0 ∨ D = 1 ∨ D = 2 ∨ D = 3 := by omega
    rcases hh with h | h | h | h <;> rw [h] <;> decide
  have hdm : c % 4 = D := hD.symm
  have HM := Lib.hid hM
  have kc := fun (w : World) (C : Array Value) (n c : Nat) => Lib.run_convert_bytes_const (P := Tryz.prog) w 22 5 C n c Tryz.underlying22 Tryz.underlying5
  have hX0 : XAt w.heap.size 0 (.slice (some ⟨w.heap.size, 0, none⟩) 1 1) (w.alloc (.cells #[.int .u8 120] 5 (1, 2))) :=
    ⟨w.heap.size, 1, rfl, Nat.le_refl _, by simp, by unfold maxLen; omega, Nat.le_refl _, fun j u hu => (by
      unfold World.cell?
      rw [heap_alloc_new]
      have e : vals (120 :: rep 0) = [.int .u8 120] := rfl
      rw [e] at hu
      simpa using hu), .inl ⟨rfl, rfl⟩⟩
  have HX0 := Lib.hid hX0
  clear hi hz0 hz1 hz2 hl hM hD hX0
  go_enter Tryz.func5, Tryz.ntmps5
  go_wp2_with (fail)
  go_loopw [4, 5] (fun b i wr => ∃ k : Nat, k ≤ M ∧ i = .int .i64 (2 * (k : Int)) ∧ Hid (XAt w.heap.size k b wr) ∧ Hid (Below w.heap.size w wr)) (fun _ i _ => 2 * M - (intOf i).toNat)
  case atStart => exact ⟨0, Nat.zero_le _, rfl, HX0, Lib.hid ((Below.refl _ _).alloc (Nat.le_refl _) _)⟩
  case round =>
    obtain ⟨k, hk, rfl, HX, HB⟩ := hrel
    have hkM : (k : Int) ≤ 1999 + D := by have := HM.out; omega
    have hk10 : k ≤ 10000 := by omega
    have HK10 := Lib.hid hk10
    clear hk10
    by_cases hlt : k < M
    · have hc : 2 * (k : Int) < 3998 + 2 * D := by have := HM.out; omega
      obtain ⟨g, cc, hv, hgH, _⟩ := HX.out
      subst hv
      go_wp2_with (at_builtin; go_loud (refine append_x rfl (.tmp 21) (.const (.string ⟨#[32, 45, 32, 120]⟩)) 22 9 rfl w.heap.size i0 Tryz.underlying22 Tryz.underlying9 HI.out HZ0.out HZ1.out HZ2.out (.slice (some ⟨g, 0, none⟩) (4 * k + 1) cc) k rfl HX.out rfl HK10.out HB.out.size ?_; intro v3 w3 hX3 hgrow3; have HB3 := Lib.hid (HB.out.grown hgrow3 HB.out.size (fun q hq => (by have h : g = q := (by simpa [Value.ownBlock] using hq); subst h; exact hgH))); have HX3 := Lib.hid hX3; clear hX3 hgrow3))
      go_roundw
      case rel => exact ⟨k + 1, by omega, by go_num, HX3, HB3⟩
      case measure => simp [intOf]; omega
    · obtain rfl : k = M := by omega
      have hc : ¬ 2 * (k : Int) < 3998 + 2 * D := by have := HM.out; omega
      obtain ⟨g, cp, rfl, hg, hby⟩ := HX.out.bytes
      have hpt := parseTerm_any (some ⟨g, 0, none⟩) (4 * k + 1) cp (120 :: rep k) wr hby (HL.out.below HB.out) (by rw [long_len]; omega)
      have HPT := Lib.hid hpt
      clear hpt hby hg HX
      go_wp2_with (fail)
      refine HPT.out.mono ?_
      rintro e w1 ⟨hb1, (⟨a, kk, hres, rfl⟩ | ⟨t, h, q, l, cl, hres, rfl, hT⟩)⟩
      · have hk2 : 2000 ≤ k := by
          rcases Nat.lt_or_ge k 2000 with h | h
          · rw [long_good k h] at hres; cases hres
          · exact h
        rw [long_bad k hk2 (by omega)] at hres
        obtain ⟨rfl, rfl⟩ : 8000 = a ∧ 3 = kk := by injection hres with h1 h2; exact ⟨h1, h2⟩
        have hgt : (4000 : Int) < 3998 + 2 * D + 1 := by have := HM.out; omega
        have HB1 := Lib.hid (Term.below_then HB.out hb1 HB.out.size)
        clear hb1 hres hk2
        go_wp2_with (fail)
        refine (awake_walk _ ?_).mono ?_
        · exact HL.out.below (HB1.out.alloc HB1.out.size _)
        rintro e w2 ⟨rfl, hb2⟩
        have HB2 := Lib.hid (Term.below_then (HB1.out.alloc HB1.out.size _) hb2 (by have := HB1.out.size; simp; omega))
        clear hb2
        go_wp2_with (fail)
        go_ret
        exact ⟨rfl, HB2.out⟩
      · have hk2 : k < 2000 := by
          rcases Nat.lt_or_ge k 2000 with h | h
          · exact h
          · rw [long_bad k h (by omega)] at hres; cases hres
        have hk9 : k = 1998 + 1 := by have := HM.out; omega
        rw [long_good k hk2] at hres
        obtain rfl := (by injection hres : _ = t)
        have hD0' : D = 0 := by have := HM.out; omega
        subst hD0'
        obtain ⟨pl, b0, hsh⟩ := long_shape 1998 ((⟨2, wX, 0⟩ : Tok) :: (repT k 1 ++ [⟨6, ⟨#[]⟩, 4 * k + 1⟩])) (varT ((⟨2, wX, 0⟩ : Tok) :: (repT k 1 ++ [⟨6, ⟨#[]⟩, 4 * k + 1⟩])) 0)
        rw [← hk9] at hsh
        rw [hsh] at hT
        have hT' := hT.reads' (Term.veil_reads _ _)
        obtain rfl : (⟨9, 2, pl, 0, ⟨#[]⟩, ⟨#[]⟩, ⟨#[]⟩⟩ : Hd) = h := hT'.head
        obtain rfl : 2 = l := hT'.len
        obtain ⟨b', o', q', c', rfl, _, d0, d1, d2, d3, d4, d5, d6, d7⟩ := hT'.kids.get 1 (show 1 < 2 by omega)
        have g0 : w1.cell? ⟨b', o' + 8, none⟩ = some (.int .u8 2) := by rw [show o' + 1 * 8 = o' + 8 from by omega] at d0; exact d0
        have hbl2 : b' < w1.heap.size := World.block_lt_of_cell? w1 _ g0
        have hd := hT'.cap
        have HB1 := Lib.hid (Term.below_then HB.out hb1 HB.out.size)
        clear wr8 hb1 hres hk2 hk9 hsh hT hT' d0 d1 d2 d3 d4 d5 d6 d7
        go_wp2_with (fail)
        refine (awake_walk _ ?_).mono ?_
        · exact HL.out.below (HB1.out.alloc HB1.out.size _)
        rintro e w2 ⟨rfl, hb2⟩
        have HB2 := Lib.hid (Term.below_then (HB1.out.alloc HB1.out.size _) hb2 (by have := HB1.out.size; simp; omega))
        clear hb2
        go_wp2_with (fail)
        go_ret
        exact ⟨rfl, HB2.out⟩
end Parse
end Go.Proofs.YtanbjakknnmfgaaGreatDoor
