import Derived.Test.YtkfkpjngiffamaaGreatDoorGC22
import Derived.BigQuiet
import Derived.Deep.QuietTactic
import Derived.Deep.RegionHeld3
namespace Go.Proofs.YtkfkpjngiffamaaGreatDoor
open Go.RowKit
set_option linter.unusedVariables false
set_option linter.unusedSimpArgs false
namespace Disp
open DispEx
open Aterm (AT Hd V AtIs acells at_load exec_at range_below at_store row_new nodeB allT smallB wt tget)
open Effect (RdI nget nget_at nget_mem ret_bool ret_i64 lt_of_block heap_alloc_new ofA digs)
open Rt (box_new box_at below_then wAt)
open Types (wOpen wShut)

theorem dig1 : digs 1 = ⟨#[49]⟩ := by
  unfold digs Lib.itoa
  rw [if_neg (by decide), show (1 : Int).toNat = 1 from rfl, Lib.decDigits_one (by omega)]
  rfl
theorem dig2 : digs 2 = ⟨#[50]⟩ := by
  unfold digs Lib.itoa
  rw [if_neg (by decide), show (2 : Int).toNat = 2 from rfl, Lib.decDigits_one (by omega)]
  rfl
theorem parts_ex : partsT exT = [wOpen, wRegion, digs 1, wIn, wOpen, wFst, wOpen, digs 2, wComma, digs 2, wAt, digs 1, wShut, wShut, wShut] := by kernel_rfl
def exText : ByteArray := ⟨#[40, 32, 114, 101, 103, 105, 111, 110, 32, 49, 32, 105, 110, 32, 40, 32, 102, 115, 116, 32, 40, 32, 50, 32, 44, 32, 50, 32, 64, 32, 49, 32, 41, 32, 41, 32, 41]⟩
theorem text_ex : textS exT = exText ∧ errE exT = 0 := by
  have hm : allT nodeB exT = true := by
    have := may_ex
    unfold Aterm.mayT at this
    rw [Bool.and_eq_true] at this
    exact this.2
  obtain ⟨h1, h2⟩ := text_yes hm
  rw [h1, h2, parts_ex, dig1, dig2]
  exact ⟨by kernel_rfl, rfl⟩
theorem exText_eq : (exText.toList == [40, 32, 114, 101, 103, 105, 111, 110, 32, 49, 32, 105, 110, 32, 40, 32, 102, 115, 116, 32, 40, 32, 50, 32, 44, 32, 50, 32, 64, 32, 49, 32, 41, 32, 41, 32, 41]) = true := by
  rw [Lib.toList_data]
  simp [exText]
set_option maxRecDepth 100000 in
set_option maxHeartbeats 12800000 in
theorem awake_walk (w : World) (hla : Laid w) : Calls Tryz.prog 8 #[] w fun e w' => e = .returned (.bool true) ∧ Below w.heap.size w w' := by
  have HLA := Lib.hid hla
  clear hla
  go_enter Tryz.func8, Tryz.ntmps8
  go_upto_region 2 with (refine at_store rfl _ _ rfl _ rfl (exH 1 0 2) (exV none 0) 0 rfl rfl ?_)
  obtain ⟨W1, hW1⟩ : ∃ W1, W1 = w.alloc (.cells #[.int .u8 (exH 1 0 2).h.k, .int .u8 (exH 1 0 2).h.op, .int .i64 (exH 1 0 2).h.pl, .int .i64 (exH 1 0 2).h.n, .string (exH 1 0 2).h.name, .string (exH 1 0 2).h.arg, .string (exH 1 0 2).h.exn, .int .i64 (exH 1 0 2).rho, .slice (exV none 0).ra (exH 1 0 2).rhos.length (exV none 0).rc, .slice (exV none 0).ea (exH 1 0 2).e.length (exV none 0).ec, .int .u8 (exH 1 0 2).ty.h.k, .int .i64 (exH 1 0 2).ty.h.r, .slice (exV none 0).tea (exH 1 0 2).ty.h.e.length (exV none 0).tec, .slice (exV none 0).tka (exH 1 0 2).ty.ks.length (exV none 0).tkc, .int .u8 (exH 1 0 2).re.h.k, .int .i64 (exH 1 0 2).re.h.r, .slice (exV none 0).sea (exH 1 0 2).re.h.e.length (exV none 0).sec, .slice (exV none 0).ska (exH 1 0 2).re.ks.length (exV none 0).skc, .slice (exV none 0).ka 0 (exV none 0).kc] 31) := ⟨_, rfl⟩
  have hr1 : W1.rangeAt w.heap.size 0 (acells (exH 1 0 2) (exV none 0) 0) := by rw [hW1]; exact row_new rfl
  have hb1 : Below w.heap.size w W1 := by rw [hW1]; exact box_new _
  rw [← hW1]
  have HR1 := Lib.hid hr1; have HB1 := Lib.hid hb1
  clear hW1 hr1 hb1
  generalize hN1 : w.heap.size = N1 at HR1 ⊢
  have HN1 := Lib.hid hN1
  clear hN1
  go_upto_region 3 with (first | refine at_load rfl _ rfl N1 0 rfl HR1.out ?_ | refine at_store2 rfl _ _ rfl _ rfl (exH 3 1) (exV (some ⟨W1.heap.size, 0, none⟩) 2) 2 _ (by simp) rfl rfl ?_)
  refine of_world (F := fun V => Below W1.heap.size W1 V ∧ AtIs V (exH 3 1) (exV (some ⟨W1.heap.size, 0, none⟩) 2) 2 exP ∧ V.rangeAt (W1.heap.size + 1) 0 (acells (exH 3 1) (exV (some ⟨W1.heap.size, 0, none⟩) 2) 2))
    ⟨(box_new _).trans ((box_new _).mono (by simp)), (ex_is (n := 0) (by decide) (k := 3) (rho := 1) (p := some ⟨W1.heap.size, 0, none⟩) (c := 2) (ts := [exN, exN]) (by decide) (by decide) ⟨Nat.le_refl _, by unfold maxLen; show 2 ≤ _; omega⟩ (kids_twice rfl)).below (box_new _), row_new (by simp)⟩ ?_
  rintro W2 ⟨hb2, hj2, hr2⟩
  have HR2 := Lib.hid hr2; have HJ2 := Lib.hid hj2; have HB2 := Lib.hid (below_then HB1.out hb2 HB1.out.size)
  clear hr2 hj2 hb2
  generalize hN2 : W1.heap.size + 1 = N2 at HR2 ⊢
  clear hN2
  go_upto_region 4 with (first | refine at_load rfl _ rfl N2 0 rfl HR2.out ?_ | refine at_store2 rfl _ _ rfl _ rfl (exH 4 0) (exV (some ⟨W2.heap.size, 0, none⟩) 1) 1 _ (by simp) rfl rfl ?_)
  refine of_world (F := fun V => Below W2.heap.size W2 V ∧ AtIs V (exH 4 0) (exV (some ⟨W2.heap.size, 0, none⟩) 1) 1 exF ∧ V.rangeAt (W2.heap.size + 1) 0 (acells (exH 4 0) (exV (some ⟨W2.heap.size, 0, none⟩) 1) 1))
    ⟨(box_new _).trans ((box_new _).mono (by simp)), (ex_is (n := 0) (by decide) (k := 4) (rho := 0) (p := some ⟨W2.heap.size, 0, none⟩) (c := 1) (ts := [exP]) (by decide) (by decide) ⟨Nat.le_refl _, by unfold maxLen; show 1 ≤ _; omega⟩ (kids_new HJ2.out rfl)).below (box_new _), row_new (by simp)⟩ ?_
  rintro W3 ⟨hb3, hj3, hr3⟩
  have HR3 := Lib.hid hr3; have HJ3 := Lib.hid hj3; have HB3 := Lib.hid (below_then HB2.out hb3 HB2.out.size)
  clear hr3 hj3 hb3
  generalize hN3 : W2.heap.size + 1 = N3 at HR3 ⊢
  clear hN3
  have hj4 : AtIs (W3.alloc (.cells (acells (exH 4 0) (exV (some ⟨W2.heap.size, 0, none⟩) 1) 1).toArray 31)) (exH 17 1) (exV (some ⟨W3.heap.size, 0, none⟩) 1) 1 exT := ex_is (n := 0) (by decide) (k := 17) (rho := 1) (p := some ⟨W3.heap.size, 0, none⟩) (c := 1) (ts := [exF]) (by decide) (by decide) ⟨Nat.le_refl _, by unfold maxLen; show 1 ≤ _; omega⟩ (kids_new HJ3.out rfl)
  have hb4 := below_then HB3.out (box_new (w := W3) (.cells (acells (exH 4 0) (exV (some ⟨W2.heap.size, 0, none⟩) 1) 1).toArray 31)) HB3.out.size
  have hl4 := HLA.out.below hb4
  have htx := text_walk exT _ _ _ _ hj4 (by rw [wt_T]; omega) small_ex hl4.kw hl4.num hl4.sg
  unfold TermEnd at htx
  rw [text_ex.1, text_ex.2] at htx
  have HTX := Lib.hid htx; have HB4 := Lib.hid hb4
  have hst := exText_eq
  clear hj4 hl4 htx hb4
  go_wp2_with (refine at_load rfl _ rfl N3 0 rfl HR3.out ?_)
  refine HTX.out.mono ?_
  rintro e w5 ⟨rfl, hb5⟩
  have HB5 := Lib.hid (below_then HB4.out hb5 HB4.out.size)
  clear hb5
  generalize exText = ET at *
  go_wp2_with (fail)
  go_ret
  exact ⟨rfl, HB5.out⟩
end Disp
end Go.Proofs.YtkfkpjngiffamaaGreatDoor
namespace Go.Proofs.YtkfkpjngiffamaaGreatDoor
open Go.RowKit
set_option linter.unusedVariables false
set_option linter.unusedSimpArgs false
namespace Disp
open Effect (At AtOk AtsAt Rd RdI ofA ret_i64 ret_bool lt_of_block heap_alloc_new own_slice digs NumLaid textE)
open Aterm (AT Hd V AtIs HdIs acells tget wt wts nodeB allT allK smallB Box box_of at_load exec_at range_below of_world atInfo)
open Rt (box_new below_then kw wAt wBang)
open Types (jb bl bl_inj bl_append bl_app bl_cons bl_one jb_one wInt wOpen wShut wStar wRef wArrow)
set_option maxRecDepth 100000 in
set_option maxHeartbeats 51200000 in
theorem ref_a (w0 : World) (m : Nat) (hT : TextIs w0 m) (t : AT) (h : Hd) (v : V) (l : Nat) (w : World) (hm : wt t ≤ m + 1) (hw : wt t ≤ 500) (hok : allT nodeB t = true) (hsm : allT smallB t = true) (hI : AtIs w0 h v l t) (hb : Below w0.heap.size w0 w) (hks : h.h.k = 1 ∨ h.h.k = 2 ∨ h.h.k = 4 ∨ h.h.k = 5 ∨ h.h.k = 7 ∨ h.h.k = 6 ∨ h.h.k = 3 ∨ h.h.k = 8 ∨ h.h.k = 10 ∨ h.h.k = 12 ∨ h.h.k = 14 ∨ h.h.k = 16) :
  Calls Tryz.prog 10 #[.agg #[.int .u8 h.h.k, .int .u8 h.h.op, .int .i64 h.h.pl, .int .i64 h.h.n, .string h.h.name, .string h.h.arg, .string h.h.exn, .int .i64 h.rho, .slice v.ra h.rhos.length v.rc, .slice v.ea h.e.length v.ec, .int .u8 h.ty.h.k, .int .i64 h.ty.h.r, .slice v.tea h.ty.h.e.length v.tec, .slice v.tka h.ty.ks.length v.tkc, .int .u8 h.re.h.k, .int .i64 h.re.h.r, .slice v.sea h.re.h.e.length v.sec, .slice v.ska h.re.ks.length v.skc, .slice v.ka l v.kc]] w fun e w' => e = .returned (.string (jb (partsT t))) ∧ Below w.heap.size w w' := by
 obtain ⟨i0, hi, hz0, hz2, hz3⟩ := Effect.str_parts
 have hlen := hI.len
 have hkk := kinds hok
 rw [hI.head] at hkk
 have hcap := hI.cap
 have nd := nd_of (top_all hok)
 rw [hI.head] at nd
 have hsh : smallB h (0 : Nat) = true := by
  have := top_all hsm
  rw [hI.head] at this
  exact this
 have hlg := Aterm.long_no (h := h) (by unfold smallB at hsh; simpa using hsh)
 have hrho := hI.ok.rho
 have hdz := Effect.digs_size h.rho nd.rho.1 hrho.2
 have hez : (efT h.e).size ≤ 1007 * 100 + 4 := Rt.textE_size (Rt.sh_eff (n := 100) hI.ok.eok (Effect.great_no hlg.2.1).2 (by omega)) (Effect.great_no hlg.2.1).1
 have hl3 : l ≤ 3 := by omega
 have hat := add_run (⟨#[32, 64, 32]⟩ : ByteArray) (digs h.rho) _ rfl (by rw [ByteArray.size_append]; have : (⟨#[32, 64, 32]⟩ : ByteArray).size = 3 := rfl; omega)
 have hef := add_run (⟨#[32, 33, 32]⟩ : ByteArray) (efT h.e) _ rfl (by rw [ByteArray.size_append]; have : (⟨#[32, 33, 32]⟩ : ByteArray).size = 3 := rfl; omega)
 have hround : ∀ j, j < l → ∃ b o kv, v.ka = some ⟨b, o, none⟩ ∧ (∀ W, Below w0.heap.size w0 W → W.rangeAt b (o + j * 19) (acells (tget t.ks j).h kv (tget t.ks j).ks.length)) ∧ ∀ W, Below w0.heap.size w0 W → Calls Tryz.prog 10 #[.agg #[.int .u8 (tget t.ks j).h.h.k, .int .u8 (tget t.ks j).h.h.op, .int .i64 (tget t.ks j).h.h.pl, .int .i64 (tget t.ks j).h.h.n, .string (tget t.ks j).h.h.name, .string (tget t.ks j).h.h.arg, .string (tget t.ks j).h.h.exn, .int .i64 (tget t.ks j).h.rho, .slice kv.ra (tget t.ks j).h.rhos.length kv.rc, .slice kv.ea (tget t.ks j).h.e.length kv.ec, .int .u8 (tget t.ks j).h.ty.h.k, .int .i64 (tget t.ks j).h.ty.h.r, .slice kv.tea (tget t.ks j).h.ty.h.e.length kv.tec, .slice kv.tka (tget t.ks j).h.ty.ks.length kv.tkc, .int .u8 (tget t.ks j).h.re.h.k, .int .i64 (tget t.ks j).h.re.h.r, .slice kv.sea (tget t.ks j).h.re.h.e.length kv.sec, .slice kv.ska (tget t.ks j).h.re.ks.length kv.skc, .slice kv.ka (tget t.ks j).ks.length kv.kc]] W fun e w' => e = .returned (.string (jb (partsT (tget t.ks j)))) ∧ Below W.heap.size W w' := by
  intro j hj
  obtain ⟨b, o, hka, hkd⟩ := kid_at hI (by omega)
  obtain ⟨kv, hIj, hrj⟩ := hkd j hj
  have hwj := Aterm.wts_mem (Aterm.tget_mem (show j < t.ks.length by omega))
  have hwt := Aterm.wt_ks t
  exact ⟨b, o, kv, hka, hrj, fun W hbW => hT (tget t.ks j) _ kv _ W (by omega) (by omega) (kid_all hok (by omega)) (kid_all hsm (by omega)) hIj hbW⟩
 have hnum := fun W => refNum_walk h.rho hrho.1 hrho.2 W
 have heff := fun W (hb : Below w0.heap.size w0 W) => refEff_walk hI.ok hlg.2.1 W hb
 have hi' := Lib.hid hi; have hz0' := Lib.hid hz0; have hz2' := Lib.hid hz2; have hz3' := Lib.hid hz3
 have HLEN := Lib.hid hlen; have HKK := Lib.hid hkk; have ND := Lib.hid nd; have HLG := Lib.hid hlg; have HDZ := Lib.hid hdz; have HEZ := Lib.hid hez; have HAT := Lib.hid hat; have HEF := Lib.hid hef; have HROUND := Lib.hid hround; have HNUM := Lib.hid hnum; have HE10 := Lib.hid heff; have HB := Lib.hid hb; have HOK := Lib.hid hok; have HSM := Lib.hid hsm; have HI := Lib.hid hI; have HW := Lib.hid hw; have HKS := Lib.hid hks
 have hcq := hcap.1
 have hcl : v.kc ≤ 9223372036854775807 := hcap.2
 clear hi hz0 hz2 hz3 hlen hkk nd hlg hdz hez hat hef hround hnum heff hb hok hsm hI hw hks hT hm hcap hsh hrho
 go_enter Tryz.func10, Tryz.ntmps10
 go_upto_region 1 with (fail)
 refine of_world (F := fun V => Below w.heap.size w V ∧ Box V w.heap.size h v l) ⟨box_new _, box_of⟩ ?_
 rintro W0 ⟨hb0, hx0⟩
 generalize w.heap.size = N1 at hx0 ⊢
 have HB0 := Lib.hid hb0; have HX0 := Lib.hid hx0
 have HR0 := Lib.hid (txs_new (w := W0) (Nat.le_refl _))
 have HS0 := Lib.hid (box_new (w := W0) (.cells #[] 9))
 have HLOW := Lib.hid (fun V (hV : Below W0.heap.size W0 V) => below_then (below_then HB.out HB0.out HB.out.size) hV (Nat.le_trans HB.out.size HB0.out.size))
 clear hb0
 obtain ⟨-, -, -, -, -, -, -, -, -, -, -, -, -, -, -, -, -, -, b18⟩ := HX0.out.below HS0.out
 clear hx0
 go_wp2_with (fail)
 clear b18
 go_loopw [3, 4, 12] (fun own _ i wr => ∃ (j c2 : Nat) (a2 : Option Addr), j ≤ l ∧ i = .int .i64 (j : Int) ∧ own = .slice a2 j c2 ∧ Hid (Effect.Txs W0.heap.size wr (.slice a2 j c2) j ((t.ks.take j).map fun u => jb (partsT u))) ∧ Hid (Below W0.heap.size W0 wr)) (fun _ _ i _ => l - (intOf i).toNat)
 case atStart => exact ⟨0, 0, _, Nat.zero_le _, rfl, rfl, Lib.hid (by rw [List.take_zero]; exact HR0.out), HS0⟩
 case round =>
  obtain ⟨j, c2, a2, hj, rfl, rfl, HT2, HS⟩ := hrel
  by_cases hlt : j < l
  · obtain ⟨b, o, kv, hka, hrj, hcj⟩ := HROUND.out j hlt
    have HRJ := Lib.hid (hrj wr (HLOW.out _ HS.out)); have HCJ := Lib.hid (hcj wr (HLOW.out _ HS.out))
    have htk : (t.ks.take (j + 1)).map (fun u => jb (partsT u)) = (t.ks.take j).map (fun u => jb (partsT u)) ++ [jb (partsT (tget t.ks j))] := by
     rw [Aterm.take_tget t.ks j (by rw [HLEN.out]; exact hlt), List.map_append]; rfl
    have HTK := Lib.hid htk
    clear hrj hcj htk
    obtain ⟨-, -, -, -, -, -, -, -, -, -, -, -, -, -, -, -, -, -, b18⟩ := HX0.out.below HS.out
    rw [hka] at b18
    clear hka
    generalize jb (partsT (tget t.ks j)) = tx at *
    go_wp2_with (refine at_load rfl _ rfl b (o + j * 19) rfl HRJ.out ?_)
    refine HCJ.out.mono ?_
    rintro e w2 ⟨rfl, hb2⟩
    have HT3 := Lib.hid (Effect.own_belowS HT2.out hb2); have HS2 := Lib.hid (below_then HS.out hb2 HS.out.size)
    clear hb2 b18
    go_wp2_with (at_builtin; refine wpList_append_own_at _ rfl (.tmp 15) (.tmp 22) 32 rfl W0.heap.size 9 i0 _ 1 16 Tryz.underlying32 hi'.out hz0'.out hz2'.out hz3'.out rfl (by omega) (.slice a2 j c2) j (Effect.strsV ((t.ks.take j).map fun u => jb (partsT u))) rfl (Effect.own_belowS HT3.out (box_new _)) _ 1 1 (Effect.strsV [tx]) rfl rfl (Effect.new_str rfl) (by simp [Effect.strsV, Value.oneCell']) (by unfold maxLen; omega) (by omega) (by have := HS2.out.size; simp; omega) ?_; intro v' w3 hown hgr hnil hat3; obtain ⟨a3, c3', rfl, -, -⟩ := own_slice hown; have HT4 := Lib.hid hown; have HS3 := Lib.hid ((below_then HS2.out (box_new _) HS2.out.size).grown hgr (by have := HS2.out.size; simp; omega) fun g hg => (HT3.out.lt g hg).1); clear hown hgr hnil hat3)
    go_roundw
    case rel => exact ⟨j + 1, c3', a3, by omega, by go_num, rfl, Lib.hid (by have := HT4.out; unfold Effect.Txs; rw [HTK.out]; show World.ownsRow _ _ _ _ _ _ (Effect.strsV _); unfold Effect.strsV at this ⊢; rw [List.map_append, List.map_cons, List.map_nil]; exact this), HS3⟩
    case measure => simp [intOf]; omega
  · obtain rfl : j = l := by omega
    have ht := HT2.out
    rw [List.take_of_length_le (by rw [HLEN.out]; exact Nat.le_refl _)] at ht
    have HT1 := Lib.hid ht
    clear ht HT2 HROUND hlt hj
    obtain ⟨-, -, -, -, -, -, -, b7, -, -, -, -, -, -, -, -, -, -, -⟩ := HX0.out.below HS.out
    go_wp2_with (fail)
    refine (HNUM.out _).mono ?_
    rintro e w5 ⟨rfl, hb5⟩
    have HS5 := Lib.hid (below_then HS.out hb5 HS.out.size); have HT5 := Lib.hid (Effect.own_belowS HT1.out hb5)
    clear hb5 b7 HT1
    have hat := HAT.out
    obtain ⟨-, -, -, -, -, -, -, -, -, b9, -, -, -, -, -, -, -, -, -⟩ := HX0.out.below HS5.out
    generalize hATe : ((⟨#[32, 64, 32]⟩ : ByteArray) ++ digs h.rho) = AT at *
    go_wp2_with (fail)
    clear hat
    refine (HE10.out _ (HLOW.out _ HS5.out)).mono ?_
    rintro e w6 ⟨rfl, hb6⟩
    have HS6 := Lib.hid (below_then HS5.out hb6 HS5.out.size); have HT6 := Lib.hid (Effect.own_belowS HT5.out hb6)
    clear hb6 b9
    have hef := HEF.out
    generalize hEFe : ((⟨#[32, 33, 32]⟩ : ByteArray) ++ efT h.e) = EF at *
    have HS7 := Lib.hid (below_then HS6.out (box_new (w := w6) (.cells #[.string ⟨#[43]⟩, .string ⟨#[45]⟩, .string ⟨#[42]⟩, .string ⟨#[60]⟩, .string ⟨#[61]⟩] 9)) HS6.out.size)
    have hx7 := HX0.out.below HS7.out
    have ht7 := Effect.own_belowS HT6.out (box_new (w := w6) (.cells #[.string ⟨#[43]⟩, .string ⟨#[45]⟩, .string ⟨#[42]⟩, .string ⟨#[60]⟩, .string ⟨#[61]⟩] 9))
    go_upto_region 10 with (fail)
    refine of_world (F := fun V => Below W0.heap.size W0 V ∧ Box V N1 h v j ∧ Effect.Txs W0.heap.size V (.slice a2 j c2) j (t.ks.map fun u => jb (partsT u)) ∧ ∀ (k : Nat) (x : Value), (#[.string ⟨#[43]⟩, .string ⟨#[45]⟩, .string ⟨#[42]⟩, .string ⟨#[60]⟩, .string ⟨#[61]⟩] : Array Value)[k]? = some x → V.cell? ⟨w6.heap.size, k, none⟩ = some x) ⟨HS7.out, hx7, ht7, signs_at w6⟩ ?_
    clear hef HS7 hx7 ht7
    rintro w7 ⟨hs8, hx8, ht8, hg8⟩
    have HS8 := Lib.hid hs8; have HX8 := Lib.hid hx8; have HT8 := Lib.hid ht8; have HG8 := Lib.hid hg8
    have hATe2 := Lib.hid hATe; have hEFe2 := Lib.hid hEFe
    clear hs8 hx8 ht8 hg8 hATe hEFe HS HS0 HR0 HT5 HT6 HS5 HS6 HAT HEF HE10
    obtain ⟨-, hc2l⟩ : True ∧ c2 ≤ 9223372036854775807 := by obtain ⟨_, _, e, h1, _⟩ := own_slice HT8.out; injection e with _ _ e3; subst e3; exact ⟨trivial, h1⟩
    rcases HKS.out with hk | hk | hk | hk | hk | hk | hk | hk | hk | hk | hk | hk
    · have hlen := HLEN.out
      have hkk := HKK.out
      obtain rfl : j = 0 := by omega
      have hok := HOK.out; have hsm := HSM.out; have hI := HI.out; have hlg := HLG.out
      have hsz := (text_small hok hsm (at_rng hI) HW.out).1
      have hfull : (⟨(Lib.itoa h.h.n).toArray⟩ : ByteArray) = jb (partsT t) := by
        apply bl_inj
        rw [partsT_eq t, hI.head]
        unfold comb
        rw [if_pos hk, bl_one]
        rfl
      rw [← hfull] at hsz
      try simp only [ByteArray.size_append] at hsz
      have hdn := fun W => Effect.refDigits_walk h.h.n hI.ok.hd.n.1 hI.ok.hd.n.2 W
      have HDN := Lib.hid hdn
      clear hdn
      have q1 : (h.h.k == 1) = true := by rw [hk]; rfl
      have HF := Lib.hid hfull
      clear hfull hlen hkk hok hsm hI hlg hsz hk
      obtain ⟨b0, -, -, b3, -, -, -, -, -, -, -, -, -, -, -, -, -, -, -⟩ := HX8.out
      go_wp2_with (fail)
      refine (HDN.out _).mono ?_
      rintro e w9 ⟨rfl, hb9⟩
      have HS9 := Lib.hid (below_then HS8.out hb9 HS8.out.size)
      clear hb9
      go_wp2_with (fail)
      go_ret
      exact ⟨ret_str HF.out, below_then HB0.out (HS9.out) HB0.out.size⟩
    · have hlen := HLEN.out
      have hkk := HKK.out
      obtain rfl : j = 0 := by omega
      have hok := HOK.out; have hsm := HSM.out; have hI := HI.out; have hlg := HLG.out
      have hsz := (text_small hok hsm (at_rng hI) HW.out).1
      have hfull : h.h.name = jb (partsT t) := by
        apply bl_inj
        rw [partsT_eq t, hI.head]
        unfold comb inW
        simp [hk, bl_append, bl_app, bl_cons, bl_one, List.append_assoc]
        try simp [bl, wComma, wColon, wPut, wTo, wIs, wAdd, wSub, wLess, wFst, wSnd, wFn, wLet, wLetrec, wIn, wIf, wThen, wElse, wRaise, wTry, wWith, wRegion, wOpen, wShut, wStar, wRef, wArrow, wAt, wBang]
      rw [← hfull] at hsz
      try simp only [ByteArray.size_append] at hsz
      have q1 : (h.h.k == 1) = false := by rw [hk]; rfl
      have q2 : (h.h.k == 2) = true := by rw [hk]; rfl
      have HF := Lib.hid hfull
      clear hfull hlen hkk hok hsm hI hlg hsz hk
      obtain ⟨b0, -, -, -, b4, -, -, -, -, -, -, -, -, -, -, -, -, -, -⟩ := HX8.out
      go_wp2_with (fail)
      go_ret
      exact ⟨ret_str HF.out, below_then HB0.out (HS8.out) HB0.out.size⟩
    · have hlen := HLEN.out
      have hkk := HKK.out
      obtain rfl : j = 1 := by omega
      have hok := HOK.out; have hsm := HSM.out; have hI := HI.out; have hlg := HLG.out
      have hsz := (text_small hok hsm (at_rng hI) HW.out).1
      have kg0 := kw_get (show 0 < t.ks.length by omega)
      have ne0 := ne_parts (kid_all hok (i := 0) (by omega)) (kid_all hsm (i := 0) (by omega))
      have hfull : (((⟨#[40, 32, 102, 115, 116, 32]⟩ : ByteArray) ++ jb (partsT (tget t.ks 0))) ++ (⟨#[32, 41]⟩ : ByteArray)) = jb (partsT t) := by
        apply bl_inj
        rw [partsT_eq t, hI.head]
        unfold comb inW
        simp [hk, kg0, ne0, bl_append, bl_app, bl_cons, bl_one, List.append_assoc]
        try simp [bl, wComma, wColon, wPut, wTo, wIs, wAdd, wSub, wLess, wFst, wSnd, wFn, wLet, wLetrec, wIn, wIf, wThen, wElse, wRaise, wTry, wWith, wRegion, wOpen, wShut, wStar, wRef, wArrow, wAt, wBang]
      rw [← hfull] at hsz
      try simp only [ByteArray.size_append] at hsz
      have ha0 := add_run (⟨#[40, 32, 102, 115, 116, 32]⟩ : ByteArray) (jb (partsT (tget t.ks 0))) _ rfl (by simp only [ByteArray.size_append]; omega)
      have ha1 := add_run ((⟨#[40, 32, 102, 115, 116, 32]⟩ : ByteArray) ++ jb (partsT (tget t.ks 0))) ((⟨#[32, 41]⟩ : ByteArray)) _ rfl (by simp only [ByteArray.size_append]; omega)
      have q1 : (h.h.k == 1) = false := by rw [hk]; rfl
      have q2 : (h.h.k == 2) = false := by rw [hk]; rfl
      have q3 : (h.h.k == 3) = false := by rw [hk]; rfl
      have q4 : (h.h.k == 4) = true := by rw [hk]; rfl
      obtain ⟨g, rfl, -, hcap2, hcells⟩ := Effect.tx_cells HT8.out (by omega)
      have k0 := hcells 0 _ (show (t.ks.map fun u => jb (partsT u))[0]? = some (jb (partsT (tget t.ks 0))) by rw [List.getElem?_map, Aterm.tget_at (show 0 < t.ks.length by omega)]; rfl)
      rw [Nat.zero_add] at k0
      have K0 := Lib.hid k0
      clear hcells
      have HF := Lib.hid hfull
      clear hfull hlen hkk hok hsm hI hlg hsz hk kg0 ne0
      generalize hJ0e : jb (partsT (tget t.ks 0)) = J0 at *
      clear hJ0e
      generalize ((⟨#[40, 32, 102, 115, 116, 32]⟩ : ByteArray) ++ J0 : ByteArray) = X0 at *
      generalize (X0 ++ (⟨#[32, 41]⟩ : ByteArray) : ByteArray) = X1 at *
      obtain ⟨b0, -, -, -, -, -, -, -, -, -, -, -, -, -, -, -, -, -, -⟩ := HX8.out
      go_wp2_with (fail)
      go_ret
      exact ⟨ret_str HF.out, below_then HB0.out (HS8.out) HB0.out.size⟩
    · have hlen := HLEN.out
      have hkk := HKK.out
      obtain rfl : j = 1 := by omega
      have hok := HOK.out; have hsm := HSM.out; have hI := HI.out; have hlg := HLG.out
      have hsz := (text_small hok hsm (at_rng hI) HW.out).1
      have kg0 := kw_get (show 0 < t.ks.length by omega)
      have ne0 := ne_parts (kid_all hok (i := 0) (by omega)) (kid_all hsm (i := 0) (by omega))
      have hfull : (((⟨#[40, 32, 115, 110, 100, 32]⟩ : ByteArray) ++ jb (partsT (tget t.ks 0))) ++ (⟨#[32, 41]⟩ : ByteArray)) = jb (partsT t) := by
        apply bl_inj
        rw [partsT_eq t, hI.head]
        unfold comb inW
        simp [hk, kg0, ne0, bl_append, bl_app, bl_cons, bl_one, List.append_assoc]
        try simp [bl, wComma, wColon, wPut, wTo, wIs, wAdd, wSub, wLess, wFst, wSnd, wFn, wLet, wLetrec, wIn, wIf, wThen, wElse, wRaise, wTry, wWith, wRegion, wOpen, wShut, wStar, wRef, wArrow, wAt, wBang]
      rw [← hfull] at hsz
      try simp only [ByteArray.size_append] at hsz
      have ha0 := add_run (⟨#[40, 32, 115, 110, 100, 32]⟩ : ByteArray) (jb (partsT (tget t.ks 0))) _ rfl (by simp only [ByteArray.size_append]; omega)
      have ha1 := add_run ((⟨#[40, 32, 115, 110, 100, 32]⟩ : ByteArray) ++ jb (partsT (tget t.ks 0))) ((⟨#[32, 41]⟩ : ByteArray)) _ rfl (by simp only [ByteArray.size_append]; omega)
      have q1 : (h.h.k == 1) = false := by rw [hk]; rfl
      have q2 : (h.h.k == 2) = false := by rw [hk]; rfl
      have q3 : (h.h.k == 3) = false := by rw [hk]; rfl
      have q4 : (h.h.k == 4) = false := by rw [hk]; rfl
      have q5 : (h.h.k == 5) = true := by rw [hk]; rfl
      obtain ⟨g, rfl, -, hcap2, hcells⟩ := Effect.tx_cells HT8.out (by omega)
      have k0 := hcells 0 _ (show (t.ks.map fun u => jb (partsT u))[0]? = some (jb (partsT (tget t.ks 0))) by rw [List.getElem?_map, Aterm.tget_at (show 0 < t.ks.length by omega)]; rfl)
      rw [Nat.zero_add] at k0
      have K0 := Lib.hid k0
      clear hcells
      have HF := Lib.hid hfull
      clear hfull hlen hkk hok hsm hI hlg hsz hk kg0 ne0
      generalize hJ0e : jb (partsT (tget t.ks 0)) = J0 at *
      clear hJ0e
      generalize ((⟨#[40, 32, 115, 110, 100, 32]⟩ : ByteArray) ++ J0 : ByteArray) = X0 at *
      generalize (X0 ++ (⟨#[32, 41]⟩ : ByteArray) : ByteArray) = X1 at *
      obtain ⟨b0, -, -, -, -, -, -, -, -, -, -, -, -, -, -, -, -, -, -⟩ := HX8.out
      go_wp2_with (fail)
      go_ret
      exact ⟨ret_str HF.out, below_then HB0.out (HS8.out) HB0.out.size⟩
    · have hlen := HLEN.out
      have hkk := HKK.out
      obtain rfl : j = 1 := by omega
      have hok := HOK.out; have hsm := HSM.out; have hI := HI.out; have hlg := HLG.out
      have hsz := (text_small hok hsm (at_rng hI) HW.out).1
      have kg0 := kw_get (show 0 < t.ks.length by omega)
      have ne0 := ne_parts (kid_all hok (i := 0) (by omega)) (kid_all hsm (i := 0) (by omega))
      have hfull : (((⟨#[40, 32, 33, 32]⟩ : ByteArray) ++ jb (partsT (tget t.ks 0))) ++ (⟨#[32, 41]⟩ : ByteArray)) = jb (partsT t) := by
        apply bl_inj
        rw [partsT_eq t, hI.head]
        unfold comb inW
        simp [hk, kg0, ne0, bl_append, bl_app, bl_cons, bl_one, List.append_assoc]
        try simp [bl, wComma, wColon, wPut, wTo, wIs, wAdd, wSub, wLess, wFst, wSnd, wFn, wLet, wLetrec, wIn, wIf, wThen, wElse, wRaise, wTry, wWith, wRegion, wOpen, wShut, wStar, wRef, wArrow, wAt, wBang]
      rw [← hfull] at hsz
      try simp only [ByteArray.size_append] at hsz
      have ha0 := add_run (⟨#[40, 32, 33, 32]⟩ : ByteArray) (jb (partsT (tget t.ks 0))) _ rfl (by simp only [ByteArray.size_append]; omega)
      have ha1 := add_run ((⟨#[40, 32, 33, 32]⟩ : ByteArray) ++ jb (partsT (tget t.ks 0))) ((⟨#[32, 41]⟩ : ByteArray)) _ rfl (by simp only [ByteArray.size_append]; omega)
      have q1 : (h.h.k == 1) = false := by rw [hk]; rfl
      have q2 : (h.h.k == 2) = false := by rw [hk]; rfl
      have q3 : (h.h.k == 3) = false := by rw [hk]; rfl
      have q4 : (h.h.k == 4) = false := by rw [hk]; rfl
      have q5 : (h.h.k == 5) = false := by rw [hk]; rfl
      have q6 : (h.h.k == 6) = false := by rw [hk]; rfl
      have q7 : (h.h.k == 7) = true := by rw [hk]; rfl
      obtain ⟨g, rfl, -, hcap2, hcells⟩ := Effect.tx_cells HT8.out (by omega)
      have k0 := hcells 0 _ (show (t.ks.map fun u => jb (partsT u))[0]? = some (jb (partsT (tget t.ks 0))) by rw [List.getElem?_map, Aterm.tget_at (show 0 < t.ks.length by omega)]; rfl)
      rw [Nat.zero_add] at k0
      have K0 := Lib.hid k0
      clear hcells
      have HF := Lib.hid hfull
      clear hfull hlen hkk hok hsm hI hlg hsz hk kg0 ne0
      generalize hJ0e : jb (partsT (tget t.ks 0)) = J0 at *
      clear hJ0e
      generalize ((⟨#[40, 32, 33, 32]⟩ : ByteArray) ++ J0 : ByteArray) = X0 at *
      generalize (X0 ++ (⟨#[32, 41]⟩ : ByteArray) : ByteArray) = X1 at *
      obtain ⟨b0, -, -, -, -, -, -, -, -, -, -, -, -, -, -, -, -, -, -⟩ := HX8.out
      go_wp2_with (fail)
      go_ret
      exact ⟨ret_str HF.out, below_then HB0.out (HS8.out) HB0.out.size⟩
    · have hlen := HLEN.out
      have hkk := HKK.out
      obtain rfl : j = 1 := by omega
      have hok := HOK.out; have hsm := HSM.out; have hI := HI.out; have hlg := HLG.out
      have hsz := (text_small hok hsm (at_rng hI) HW.out).1
      have kg0 := kw_get (show 0 < t.ks.length by omega)
      have ne0 := ne_parts (kid_all hok (i := 0) (by omega)) (kid_all hsm (i := 0) (by omega))
      have hfull : ((((⟨#[40, 32, 114, 101, 102, 32]⟩ : ByteArray) ++ jb (partsT (tget t.ks 0))) ++ AT) ++ (⟨#[32, 41]⟩ : ByteArray)) = jb (partsT t) := by
        rw [← hATe2.out]
        apply bl_inj
        rw [partsT_eq t, hI.head]
        unfold comb inW atW
        simp [hk, kg0, ne0, bl_append, bl_app, bl_cons, bl_one, List.append_assoc]
        try simp [bl, wComma, wColon, wPut, wTo, wIs, wAdd, wSub, wLess, wFst, wSnd, wFn, wLet, wLetrec, wIn, wIf, wThen, wElse, wRaise, wTry, wWith, wRegion, wOpen, wShut, wStar, wRef, wArrow, wAt, wBang]
      rw [← hfull] at hsz
      try simp only [ByteArray.size_append] at hsz
      have ha0 := add_run (⟨#[40, 32, 114, 101, 102, 32]⟩ : ByteArray) (jb (partsT (tget t.ks 0))) _ rfl (by simp only [ByteArray.size_append]; omega)
      have ha1 := add_run ((⟨#[40, 32, 114, 101, 102, 32]⟩ : ByteArray) ++ jb (partsT (tget t.ks 0))) (AT) _ rfl (by simp only [ByteArray.size_append]; omega)
      have ha2 := add_run (((⟨#[40, 32, 114, 101, 102, 32]⟩ : ByteArray) ++ jb (partsT (tget t.ks 0))) ++ AT) ((⟨#[32, 41]⟩ : ByteArray)) _ rfl (by simp only [ByteArray.size_append]; omega)
      have q1 : (h.h.k == 1) = false := by rw [hk]; rfl
      have q2 : (h.h.k == 2) = false := by rw [hk]; rfl
      have q3 : (h.h.k == 3) = false := by rw [hk]; rfl
      have q4 : (h.h.k == 4) = false := by rw [hk]; rfl
      have q5 : (h.h.k == 5) = false := by rw [hk]; rfl
      have q6 : (h.h.k == 6) = true := by rw [hk]; rfl
      obtain ⟨g, rfl, -, hcap2, hcells⟩ := Effect.tx_cells HT8.out (by omega)
      have k0 := hcells 0 _ (show (t.ks.map fun u => jb (partsT u))[0]? = some (jb (partsT (tget t.ks 0))) by rw [List.getElem?_map, Aterm.tget_at (show 0 < t.ks.length by omega)]; rfl)
      rw [Nat.zero_add] at k0
      have K0 := Lib.hid k0
      clear hcells
      have HF := Lib.hid hfull
      clear hfull hlen hkk hok hsm hI hlg hsz hk kg0 ne0
      generalize hJ0e : jb (partsT (tget t.ks 0)) = J0 at *
      clear hJ0e
      generalize ((⟨#[40, 32, 114, 101, 102, 32]⟩ : ByteArray) ++ J0 : ByteArray) = X0 at *
      generalize (X0 ++ AT : ByteArray) = X1 at *
      generalize (X1 ++ (⟨#[32, 41]⟩ : ByteArray) : ByteArray) = X2 at *
      obtain ⟨b0, -, -, -, -, -, -, -, -, -, -, -, -, -, -, -, -, -, -⟩ := HX8.out
      go_wp2_with (fail)
      go_ret
      exact ⟨ret_str HF.out, below_then HB0.out (HS8.out) HB0.out.size⟩
    · have hlen := HLEN.out
      have hkk := HKK.out
      obtain rfl : j = 2 := by omega
      have hok := HOK.out; have hsm := HSM.out; have hI := HI.out; have hlg := HLG.out
      have hsz := (text_small hok hsm (at_rng hI) HW.out).1
      have kg0 := kw_get (show 0 < t.ks.length by omega)
      have ne0 := ne_parts (kid_all hok (i := 0) (by omega)) (kid_all hsm (i := 0) (by omega))
      have kg1 := kw_get (show 1 < t.ks.length by omega)
      have ne1 := ne_parts (kid_all hok (i := 1) (by omega)) (kid_all hsm (i := 1) (by omega))
      have hfull : ((((((⟨#[40, 32]⟩ : ByteArray) ++ jb (partsT (tget t.ks 0))) ++ (⟨#[32, 44, 32]⟩ : ByteArray)) ++ jb (partsT (tget t.ks 1))) ++ AT) ++ (⟨#[32, 41]⟩ : ByteArray)) = jb (partsT t) := by
        rw [← hATe2.out]
        apply bl_inj
        rw [partsT_eq t, hI.head]
        unfold comb inW atW
        simp [hk, kg0, kg1, ne0, ne1, bl_append, bl_app, bl_cons, bl_one, List.append_assoc]
        try simp [bl, wComma, wColon, wPut, wTo, wIs, wAdd, wSub, wLess, wFst, wSnd, wFn, wLet, wLetrec, wIn, wIf, wThen, wElse, wRaise, wTry, wWith, wRegion, wOpen, wShut, wStar, wRef, wArrow, wAt, wBang]
      rw [← hfull] at hsz
      try simp only [ByteArray.size_append] at hsz
      have ha0 := add_run (⟨#[40, 32]⟩ : ByteArray) (jb (partsT (tget t.ks 0))) _ rfl (by simp only [ByteArray.size_append]; omega)
      have ha1 := add_run ((⟨#[40, 32]⟩ : ByteArray) ++ jb (partsT (tget t.ks 0))) ((⟨#[32, 44, 32]⟩ : ByteArray)) _ rfl (by simp only [ByteArray.size_append]; omega)
      have ha2 := add_run (((⟨#[40, 32]⟩ : ByteArray) ++ jb (partsT (tget t.ks 0))) ++ (⟨#[32, 44, 32]⟩ : ByteArray)) (jb (partsT (tget t.ks 1))) _ rfl (by simp only [ByteArray.size_append]; omega)
      have ha3 := add_run ((((⟨#[40, 32]⟩ : ByteArray) ++ jb (partsT (tget t.ks 0))) ++ (⟨#[32, 44, 32]⟩ : ByteArray)) ++ jb (partsT (tget t.ks 1))) (AT) _ rfl (by simp only [ByteArray.size_append]; omega)
      have ha4 := add_run (((((⟨#[40, 32]⟩ : ByteArray) ++ jb (partsT (tget t.ks 0))) ++ (⟨#[32, 44, 32]⟩ : ByteArray)) ++ jb (partsT (tget t.ks 1))) ++ AT) ((⟨#[32, 41]⟩ : ByteArray)) _ rfl (by simp only [ByteArray.size_append]; omega)
      have q1 : (h.h.k == 1) = false := by rw [hk]; rfl
      have q2 : (h.h.k == 2) = false := by rw [hk]; rfl
      have q3 : (h.h.k == 3) = true := by rw [hk]; rfl
      obtain ⟨g, rfl, -, hcap2, hcells⟩ := Effect.tx_cells HT8.out (by omega)
      have k0 := hcells 0 _ (show (t.ks.map fun u => jb (partsT u))[0]? = some (jb (partsT (tget t.ks 0))) by rw [List.getElem?_map, Aterm.tget_at (show 0 < t.ks.length by omega)]; rfl)
      rw [Nat.zero_add] at k0
      have K0 := Lib.hid k0
      have k1 := hcells 1 _ (show (t.ks.map fun u => jb (partsT u))[1]? = some (jb (partsT (tget t.ks 1))) by rw [List.getElem?_map, Aterm.tget_at (show 1 < t.ks.length by omega)]; rfl)
      rw [Nat.zero_add] at k1
      have K1 := Lib.hid k1
      clear hcells
      have HF := Lib.hid hfull
      clear hfull hlen hkk hok hsm hI hlg hsz hk kg0 ne0 kg1 ne1
      generalize hJ0e : jb (partsT (tget t.ks 0)) = J0 at *
      clear hJ0e
      generalize hJ1e : jb (partsT (tget t.ks 1)) = J1 at *
      clear hJ1e
      generalize ((⟨#[40, 32]⟩ : ByteArray) ++ J0 : ByteArray) = X0 at *
      generalize (X0 ++ (⟨#[32, 44, 32]⟩ : ByteArray) : ByteArray) = X1 at *
      generalize (X1 ++ J1 : ByteArray) = X2 at *
      generalize (X2 ++ AT : ByteArray) = X3 at *
      generalize (X3 ++ (⟨#[32, 41]⟩ : ByteArray) : ByteArray) = X4 at *
      obtain ⟨b0, -, -, -, -, -, -, -, -, -, -, -, -, -, -, -, -, -, -⟩ := HX8.out
      go_upto_region 16 with (fail)
      go_quiet (fail)
      go_wp2_with (fail)
      go_ret
      exact ⟨ret_str HF.out, below_then HB0.out ((drewN_below HS8.out _)) HB0.out.size⟩
    · have hlen := HLEN.out
      have hkk := HKK.out
      obtain rfl : j = 2 := by omega
      have hok := HOK.out; have hsm := HSM.out; have hI := HI.out; have hlg := HLG.out
      have hsz := (text_small hok hsm (at_rng hI) HW.out).1
      have kg0 := kw_get (show 0 < t.ks.length by omega)
      have ne0 := ne_parts (kid_all hok (i := 0) (by omega)) (kid_all hsm (i := 0) (by omega))
      have kg1 := kw_get (show 1 < t.ks.length by omega)
      have ne1 := ne_parts (kid_all hok (i := 1) (by omega)) (kid_all hsm (i := 1) (by omega))
      have hfull : (((((⟨#[40, 32]⟩ : ByteArray) ++ jb (partsT (tget t.ks 0))) ++ (⟨#[32, 58, 61, 32]⟩ : ByteArray)) ++ jb (partsT (tget t.ks 1))) ++ (⟨#[32, 41]⟩ : ByteArray)) = jb (partsT t) := by
        apply bl_inj
        rw [partsT_eq t, hI.head]
        unfold comb inW
        simp [hk, kg0, kg1, ne0, ne1, bl_append, bl_app, bl_cons, bl_one, List.append_assoc]
        try simp [bl, wComma, wColon, wPut, wTo, wIs, wAdd, wSub, wLess, wFst, wSnd, wFn, wLet, wLetrec, wIn, wIf, wThen, wElse, wRaise, wTry, wWith, wRegion, wOpen, wShut, wStar, wRef, wArrow, wAt, wBang]
      rw [← hfull] at hsz
      try simp only [ByteArray.size_append] at hsz
      have ha0 := add_run (⟨#[40, 32]⟩ : ByteArray) (jb (partsT (tget t.ks 0))) _ rfl (by simp only [ByteArray.size_append]; omega)
      have ha1 := add_run ((⟨#[40, 32]⟩ : ByteArray) ++ jb (partsT (tget t.ks 0))) ((⟨#[32, 58, 61, 32]⟩ : ByteArray)) _ rfl (by simp only [ByteArray.size_append]; omega)
      have ha2 := add_run (((⟨#[40, 32]⟩ : ByteArray) ++ jb (partsT (tget t.ks 0))) ++ (⟨#[32, 58, 61, 32]⟩ : ByteArray)) (jb (partsT (tget t.ks 1))) _ rfl (by simp only [ByteArray.size_append]; omega)
      have ha3 := add_run ((((⟨#[40, 32]⟩ : ByteArray) ++ jb (partsT (tget t.ks 0))) ++ (⟨#[32, 58, 61, 32]⟩ : ByteArray)) ++ jb (partsT (tget t.ks 1))) ((⟨#[32, 41]⟩ : ByteArray)) _ rfl (by simp only [ByteArray.size_append]; omega)
      have q1 : (h.h.k == 1) = false := by rw [hk]; rfl
      have q2 : (h.h.k == 2) = false := by rw [hk]; rfl
      have q3 : (h.h.k == 3) = false := by rw [hk]; rfl
      have q4 : (h.h.k == 4) = false := by rw [hk]; rfl
      have q5 : (h.h.k == 5) = false := by rw [hk]; rfl
      have q6 : (h.h.k == 6) = false := by rw [hk]; rfl
      have q7 : (h.h.k == 7) = false := by rw [hk]; rfl
      have q8 : (h.h.k == 8) = true := by rw [hk]; rfl
      obtain ⟨g, rfl, -, hcap2, hcells⟩ := Effect.tx_cells HT8.out (by omega)
      have k0 := hcells 0 _ (show (t.ks.map fun u => jb (partsT u))[0]? = some (jb (partsT (tget t.ks 0))) by rw [List.getElem?_map, Aterm.tget_at (show 0 < t.ks.length by omega)]; rfl)
      rw [Nat.zero_add] at k0
      have K0 := Lib.hid k0
      have k1 := hcells 1 _ (show (t.ks.map fun u => jb (partsT u))[1]? = some (jb (partsT (tget t.ks 1))) by rw [List.getElem?_map, Aterm.tget_at (show 1 < t.ks.length by omega)]; rfl)
      rw [Nat.zero_add] at k1
      have K1 := Lib.hid k1
      clear hcells
      have HF := Lib.hid hfull
      clear hfull hlen hkk hok hsm hI hlg hsz hk kg0 ne0 kg1 ne1
      generalize hJ0e : jb (partsT (tget t.ks 0)) = J0 at *
      clear hJ0e
      generalize hJ1e : jb (partsT (tget t.ks 1)) = J1 at *
      clear hJ1e
      generalize ((⟨#[40, 32]⟩ : ByteArray) ++ J0 : ByteArray) = X0 at *
      generalize (X0 ++ (⟨#[32, 58, 61, 32]⟩ : ByteArray) : ByteArray) = X1 at *
      generalize (X1 ++ J1 : ByteArray) = X2 at *
      generalize (X2 ++ (⟨#[32, 41]⟩ : ByteArray) : ByteArray) = X3 at *
      obtain ⟨b0, -, -, -, -, -, -, -, -, -, -, -, -, -, -, -, -, -, -⟩ := HX8.out
      go_upto_region 26 with (fail)
      go_quiet (fail)
      go_wp2_with (fail)
      go_ret
      exact ⟨ret_str HF.out, below_then HB0.out ((drewN_below HS8.out _)) HB0.out.size⟩
    · have hlen := HLEN.out
      have hkk := HKK.out
      obtain rfl : j = 2 := by omega
      have hok := HOK.out; have hsm := HSM.out; have hI := HI.out; have hlg := HLG.out
      have hsz := (text_small hok hsm (at_rng hI) HW.out).1
      have kg0 := kw_get (show 0 < t.ks.length by omega)
      have ne0 := ne_parts (kid_all hok (i := 0) (by omega)) (kid_all hsm (i := 0) (by omega))
      have kg1 := kw_get (show 1 < t.ks.length by omega)
      have ne1 := ne_parts (kid_all hok (i := 1) (by omega)) (kid_all hsm (i := 1) (by omega))
      have hfull : (((((⟨#[40, 32]⟩ : ByteArray) ++ jb (partsT (tget t.ks 0))) ++ (⟨#[32]⟩ : ByteArray)) ++ jb (partsT (tget t.ks 1))) ++ (⟨#[32, 41]⟩ : ByteArray)) = jb (partsT t) := by
        apply bl_inj
        rw [partsT_eq t, hI.head]
        unfold comb inW
        simp [hk, kg0, kg1, ne0, ne1, bl_append, bl_app, bl_cons, bl_one, List.append_assoc]
        try simp [bl, wComma, wColon, wPut, wTo, wIs, wAdd, wSub, wLess, wFst, wSnd, wFn, wLet, wLetrec, wIn, wIf, wThen, wElse, wRaise, wTry, wWith, wRegion, wOpen, wShut, wStar, wRef, wArrow, wAt, wBang]
      rw [← hfull] at hsz
      try simp only [ByteArray.size_append] at hsz
      have ha0 := add_run (⟨#[40, 32]⟩ : ByteArray) (jb (partsT (tget t.ks 0))) _ rfl (by simp only [ByteArray.size_append]; omega)
      have ha1 := add_run ((⟨#[40, 32]⟩ : ByteArray) ++ jb (partsT (tget t.ks 0))) ((⟨#[32]⟩ : ByteArray)) _ rfl (by simp only [ByteArray.size_append]; omega)
      have ha2 := add_run (((⟨#[40, 32]⟩ : ByteArray) ++ jb (partsT (tget t.ks 0))) ++ (⟨#[32]⟩ : ByteArray)) (jb (partsT (tget t.ks 1))) _ rfl (by simp only [ByteArray.size_append]; omega)
      have ha3 := add_run ((((⟨#[40, 32]⟩ : ByteArray) ++ jb (partsT (tget t.ks 0))) ++ (⟨#[32]⟩ : ByteArray)) ++ jb (partsT (tget t.ks 1))) ((⟨#[32, 41]⟩ : ByteArray)) _ rfl (by simp only [ByteArray.size_append]; omega)
      have q1 : (h.h.k == 1) = false := by rw [hk]; rfl
      have q2 : (h.h.k == 2) = false := by rw [hk]; rfl
      have q3 : (h.h.k == 3) = false := by rw [hk]; rfl
      have q4 : (h.h.k == 4) = false := by rw [hk]; rfl
      have q5 : (h.h.k == 5) = false := by rw [hk]; rfl
      have q6 : (h.h.k == 6) = false := by rw [hk]; rfl
      have q7 : (h.h.k == 7) = false := by rw [hk]; rfl
      have q8 : (h.h.k == 8) = false := by rw [hk]; rfl
      have q9 : (h.h.k == 9) = false := by rw [hk]; rfl
      have q10 : (h.h.k == 10) = true := by rw [hk]; rfl
      obtain ⟨g, rfl, -, hcap2, hcells⟩ := Effect.tx_cells HT8.out (by omega)
      have k0 := hcells 0 _ (show (t.ks.map fun u => jb (partsT u))[0]? = some (jb (partsT (tget t.ks 0))) by rw [List.getElem?_map, Aterm.tget_at (show 0 < t.ks.length by omega)]; rfl)
      rw [Nat.zero_add] at k0
      have K0 := Lib.hid k0
      have k1 := hcells 1 _ (show (t.ks.map fun u => jb (partsT u))[1]? = some (jb (partsT (tget t.ks 1))) by rw [List.getElem?_map, Aterm.tget_at (show 1 < t.ks.length by omega)]; rfl)
      rw [Nat.zero_add] at k1
      have K1 := Lib.hid k1
      clear hcells
      have HF := Lib.hid hfull
      clear hfull hlen hkk hok hsm hI hlg hsz hk kg0 ne0 kg1 ne1
      generalize hJ0e : jb (partsT (tget t.ks 0)) = J0 at *
      clear hJ0e
      generalize hJ1e : jb (partsT (tget t.ks 1)) = J1 at *
      clear hJ1e
      generalize ((⟨#[40, 32]⟩ : ByteArray) ++ J0 : ByteArray) = X0 at *
      generalize (X0 ++ (⟨#[32]⟩ : ByteArray) : ByteArray) = X1 at *
      generalize (X1 ++ J1 : ByteArray) = X2 at *
      generalize (X2 ++ (⟨#[32, 41]⟩ : ByteArray) : ByteArray) = X3 at *
      obtain ⟨b0, -, -, -, -, -, -, -, -, -, -, -, -, -, -, -, -, -, -⟩ := HX8.out
      go_upto_region 30 with (fail)
      go_quiet (fail)
      go_wp2_with (fail)
      go_ret
      exact ⟨ret_str HF.out, below_then HB0.out ((drewN_below HS8.out _)) HB0.out.size⟩
    · have hlen := HLEN.out
      have hkk := HKK.out
      obtain rfl : j = 2 := by omega
      have hok := HOK.out; have hsm := HSM.out; have hI := HI.out; have hlg := HLG.out
      have hsz := (text_small hok hsm (at_rng hI) HW.out).1
      have kg0 := kw_get (show 0 < t.ks.length by omega)
      have ne0 := ne_parts (kid_all hok (i := 0) (by omega)) (kid_all hsm (i := 0) (by omega))
      have kg1 := kw_get (show 1 < t.ks.length by omega)
      have ne1 := ne_parts (kid_all hok (i := 1) (by omega)) (kid_all hsm (i := 1) (by omega))
      have hfull : (((((((⟨#[40, 32, 108, 101, 116, 32]⟩ : ByteArray) ++ h.h.name) ++ (⟨#[32, 61, 32]⟩ : ByteArray)) ++ jb (partsT (tget t.ks 0))) ++ (⟨#[32, 105, 110, 32]⟩ : ByteArray)) ++ jb (partsT (tget t.ks 1))) ++ (⟨#[32, 41]⟩ : ByteArray)) = jb (partsT t) := by
        apply bl_inj
        rw [partsT_eq t, hI.head]
        unfold comb inW
        simp [hk, kg0, kg1, ne0, ne1, bl_append, bl_app, bl_cons, bl_one, List.append_assoc]
        try simp [bl, wComma, wColon, wPut, wTo, wIs, wAdd, wSub, wLess, wFst, wSnd, wFn, wLet, wLetrec, wIn, wIf, wThen, wElse, wRaise, wTry, wWith, wRegion, wOpen, wShut, wStar, wRef, wArrow, wAt, wBang]
      rw [← hfull] at hsz
      try simp only [ByteArray.size_append] at hsz
      have ha0 := add_run (⟨#[40, 32, 108, 101, 116, 32]⟩ : ByteArray) (h.h.name) _ rfl (by simp only [ByteArray.size_append]; omega)
      have ha1 := add_run ((⟨#[40, 32, 108, 101, 116, 32]⟩ : ByteArray) ++ h.h.name) ((⟨#[32, 61, 32]⟩ : ByteArray)) _ rfl (by simp only [ByteArray.size_append]; omega)
      have ha2 := add_run (((⟨#[40, 32, 108, 101, 116, 32]⟩ : ByteArray) ++ h.h.name) ++ (⟨#[32, 61, 32]⟩ : ByteArray)) (jb (partsT (tget t.ks 0))) _ rfl (by simp only [ByteArray.size_append]; omega)
      have ha3 := add_run ((((⟨#[40, 32, 108, 101, 116, 32]⟩ : ByteArray) ++ h.h.name) ++ (⟨#[32, 61, 32]⟩ : ByteArray)) ++ jb (partsT (tget t.ks 0))) ((⟨#[32, 105, 110, 32]⟩ : ByteArray)) _ rfl (by simp only [ByteArray.size_append]; omega)
      have ha4 := add_run (((((⟨#[40, 32, 108, 101, 116, 32]⟩ : ByteArray) ++ h.h.name) ++ (⟨#[32, 61, 32]⟩ : ByteArray)) ++ jb (partsT (tget t.ks 0))) ++ (⟨#[32, 105, 110, 32]⟩ : ByteArray)) (jb (partsT (tget t.ks 1))) _ rfl (by simp only [ByteArray.size_append]; omega)
      have ha5 := add_run ((((((⟨#[40, 32, 108, 101, 116, 32]⟩ : ByteArray) ++ h.h.name) ++ (⟨#[32, 61, 32]⟩ : ByteArray)) ++ jb (partsT (tget t.ks 0))) ++ (⟨#[32, 105, 110, 32]⟩ : ByteArray)) ++ jb (partsT (tget t.ks 1))) ((⟨#[32, 41]⟩ : ByteArray)) _ rfl (by simp only [ByteArray.size_append]; omega)
      have q1 : (h.h.k == 1) = false := by rw [hk]; rfl
      have q2 : (h.h.k == 2) = false := by rw [hk]; rfl
      have q3 : (h.h.k == 3) = false := by rw [hk]; rfl
      have q4 : (h.h.k == 4) = false := by rw [hk]; rfl
      have q5 : (h.h.k == 5) = false := by rw [hk]; rfl
      have q6 : (h.h.k == 6) = false := by rw [hk]; rfl
      have q7 : (h.h.k == 7) = false := by rw [hk]; rfl
      have q8 : (h.h.k == 8) = false := by rw [hk]; rfl
      have q9 : (h.h.k == 9) = false := by rw [hk]; rfl
      have q10 : (h.h.k == 10) = false := by rw [hk]; rfl
      have q11 : (h.h.k == 11) = false := by rw [hk]; rfl
      have q12 : (h.h.k == 12) = true := by rw [hk]; rfl
      obtain ⟨g, rfl, -, hcap2, hcells⟩ := Effect.tx_cells HT8.out (by omega)
      have k0 := hcells 0 _ (show (t.ks.map fun u => jb (partsT u))[0]? = some (jb (partsT (tget t.ks 0))) by rw [List.getElem?_map, Aterm.tget_at (show 0 < t.ks.length by omega)]; rfl)
      rw [Nat.zero_add] at k0
      have K0 := Lib.hid k0
      have k1 := hcells 1 _ (show (t.ks.map fun u => jb (partsT u))[1]? = some (jb (partsT (tget t.ks 1))) by rw [List.getElem?_map, Aterm.tget_at (show 1 < t.ks.length by omega)]; rfl)
      rw [Nat.zero_add] at k1
      have K1 := Lib.hid k1
      clear hcells
      have HF := Lib.hid hfull
      clear hfull hlen hkk hok hsm hI hlg hsz hk kg0 ne0 kg1 ne1
      generalize hJ0e : jb (partsT (tget t.ks 0)) = J0 at *
      clear hJ0e
      generalize hJ1e : jb (partsT (tget t.ks 1)) = J1 at *
      clear hJ1e
      generalize ((⟨#[40, 32, 108, 101, 116, 32]⟩ : ByteArray) ++ h.h.name : ByteArray) = X0 at *
      generalize (X0 ++ (⟨#[32, 61, 32]⟩ : ByteArray) : ByteArray) = X1 at *
      generalize (X1 ++ J0 : ByteArray) = X2 at *
      generalize (X2 ++ (⟨#[32, 105, 110, 32]⟩ : ByteArray) : ByteArray) = X3 at *
      generalize (X3 ++ J1 : ByteArray) = X4 at *
      generalize (X4 ++ (⟨#[32, 41]⟩ : ByteArray) : ByteArray) = X5 at *
      obtain ⟨b0, -, -, -, b4, -, -, -, -, -, -, -, -, -, -, -, -, -, -⟩ := HX8.out
      go_upto_region 34 with (fail)
      go_quiet (fail)
      go_wp2_with (fail)
      go_ret
      exact ⟨ret_str HF.out, below_then HB0.out ((drewN_below HS8.out _)) HB0.out.size⟩
    · have hlen := HLEN.out
      have hkk := HKK.out
      obtain rfl : j = 3 := by omega
      have hok := HOK.out; have hsm := HSM.out; have hI := HI.out; have hlg := HLG.out
      have hsz := (text_small hok hsm (at_rng hI) HW.out).1
      have kg0 := kw_get (show 0 < t.ks.length by omega)
      have ne0 := ne_parts (kid_all hok (i := 0) (by omega)) (kid_all hsm (i := 0) (by omega))
      have kg1 := kw_get (show 1 < t.ks.length by omega)
      have ne1 := ne_parts (kid_all hok (i := 1) (by omega)) (kid_all hsm (i := 1) (by omega))
      have kg2 := kw_get (show 2 < t.ks.length by omega)
      have ne2 := ne_parts (kid_all hok (i := 2) (by omega)) (kid_all hsm (i := 2) (by omega))
      have hfull : (((((((⟨#[40, 32, 105, 102, 32]⟩ : ByteArray) ++ jb (partsT (tget t.ks 0))) ++ (⟨#[32, 116, 104, 101, 110, 32]⟩ : ByteArray)) ++ jb (partsT (tget t.ks 1))) ++ (⟨#[32, 101, 108, 115, 101, 32]⟩ : ByteArray)) ++ jb (partsT (tget t.ks 2))) ++ (⟨#[32, 41]⟩ : ByteArray)) = jb (partsT t) := by
        apply bl_inj
        rw [partsT_eq t, hI.head]
        unfold comb inW
        simp [hk, kg0, kg1, kg2, ne0, ne1, ne2, bl_append, bl_app, bl_cons, bl_one, List.append_assoc]
        try simp [bl, wComma, wColon, wPut, wTo, wIs, wAdd, wSub, wLess, wFst, wSnd, wFn, wLet, wLetrec, wIn, wIf, wThen, wElse, wRaise, wTry, wWith, wRegion, wOpen, wShut, wStar, wRef, wArrow, wAt, wBang]
      rw [← hfull] at hsz
      try simp only [ByteArray.size_append] at hsz
      have ha0 := add_run (⟨#[40, 32, 105, 102, 32]⟩ : ByteArray) (jb (partsT (tget t.ks 0))) _ rfl (by simp only [ByteArray.size_append]; omega)
      have ha1 := add_run ((⟨#[40, 32, 105, 102, 32]⟩ : ByteArray) ++ jb (partsT (tget t.ks 0))) ((⟨#[32, 116, 104, 101, 110, 32]⟩ : ByteArray)) _ rfl (by simp only [ByteArray.size_append]; omega)
      have ha2 := add_run (((⟨#[40, 32, 105, 102, 32]⟩ : ByteArray) ++ jb (partsT (tget t.ks 0))) ++ (⟨#[32, 116, 104, 101, 110, 32]⟩ : ByteArray)) (jb (partsT (tget t.ks 1))) _ rfl (by simp only [ByteArray.size_append]; omega)
      have ha3 := add_run ((((⟨#[40, 32, 105, 102, 32]⟩ : ByteArray) ++ jb (partsT (tget t.ks 0))) ++ (⟨#[32, 116, 104, 101, 110, 32]⟩ : ByteArray)) ++ jb (partsT (tget t.ks 1))) ((⟨#[32, 101, 108, 115, 101, 32]⟩ : ByteArray)) _ rfl (by simp only [ByteArray.size_append]; omega)
      have ha4 := add_run (((((⟨#[40, 32, 105, 102, 32]⟩ : ByteArray) ++ jb (partsT (tget t.ks 0))) ++ (⟨#[32, 116, 104, 101, 110, 32]⟩ : ByteArray)) ++ jb (partsT (tget t.ks 1))) ++ (⟨#[32, 101, 108, 115, 101, 32]⟩ : ByteArray)) (jb (partsT (tget t.ks 2))) _ rfl (by simp only [ByteArray.size_append]; omega)
      have ha5 := add_run ((((((⟨#[40, 32, 105, 102, 32]⟩ : ByteArray) ++ jb (partsT (tget t.ks 0))) ++ (⟨#[32, 116, 104, 101, 110, 32]⟩ : ByteArray)) ++ jb (partsT (tget t.ks 1))) ++ (⟨#[32, 101, 108, 115, 101, 32]⟩ : ByteArray)) ++ jb (partsT (tget t.ks 2))) ((⟨#[32, 41]⟩ : ByteArray)) _ rfl (by simp only [ByteArray.size_append]; omega)
      have q1 : (h.h.k == 1) = false := by rw [hk]; rfl
      have q2 : (h.h.k == 2) = false := by rw [hk]; rfl
      have q3 : (h.h.k == 3) = false := by rw [hk]; rfl
      have q4 : (h.h.k == 4) = false := by rw [hk]; rfl
      have q5 : (h.h.k == 5) = false := by rw [hk]; rfl
      have q6 : (h.h.k == 6) = false := by rw [hk]; rfl
      have q7 : (h.h.k == 7) = false := by rw [hk]; rfl
      have q8 : (h.h.k == 8) = false := by rw [hk]; rfl
      have q9 : (h.h.k == 9) = false := by rw [hk]; rfl
      have q10 : (h.h.k == 10) = false := by rw [hk]; rfl
      have q11 : (h.h.k == 11) = false := by rw [hk]; rfl
      have q12 : (h.h.k == 12) = false := by rw [hk]; rfl
      have q13 : (h.h.k == 13) = false := by rw [hk]; rfl
      have q14 : (h.h.k == 14) = true := by rw [hk]; rfl
      obtain ⟨g, rfl, -, hcap2, hcells⟩ := Effect.tx_cells HT8.out (by omega)
      have k0 := hcells 0 _ (show (t.ks.map fun u => jb (partsT u))[0]? = some (jb (partsT (tget t.ks 0))) by rw [List.getElem?_map, Aterm.tget_at (show 0 < t.ks.length by omega)]; rfl)
      rw [Nat.zero_add] at k0
      have K0 := Lib.hid k0
      have k1 := hcells 1 _ (show (t.ks.map fun u => jb (partsT u))[1]? = some (jb (partsT (tget t.ks 1))) by rw [List.getElem?_map, Aterm.tget_at (show 1 < t.ks.length by omega)]; rfl)
      rw [Nat.zero_add] at k1
      have K1 := Lib.hid k1
      have k2 := hcells 2 _ (show (t.ks.map fun u => jb (partsT u))[2]? = some (jb (partsT (tget t.ks 2))) by rw [List.getElem?_map, Aterm.tget_at (show 2 < t.ks.length by omega)]; rfl)
      rw [Nat.zero_add] at k2
      have K2 := Lib.hid k2
      clear hcells
      have HF := Lib.hid hfull
      clear hfull hlen hkk hok hsm hI hlg hsz hk kg0 ne0 kg1 ne1 kg2 ne2
      generalize hJ0e : jb (partsT (tget t.ks 0)) = J0 at *
      clear hJ0e
      generalize hJ1e : jb (partsT (tget t.ks 1)) = J1 at *
      clear hJ1e
      generalize hJ2e : jb (partsT (tget t.ks 2)) = J2 at *
      clear hJ2e
      generalize ((⟨#[40, 32, 105, 102, 32]⟩ : ByteArray) ++ J0 : ByteArray) = X0 at *
      generalize (X0 ++ (⟨#[32, 116, 104, 101, 110, 32]⟩ : ByteArray) : ByteArray) = X1 at *
      generalize (X1 ++ J1 : ByteArray) = X2 at *
      generalize (X2 ++ (⟨#[32, 101, 108, 115, 101, 32]⟩ : ByteArray) : ByteArray) = X3 at *
      generalize (X3 ++ J2 : ByteArray) = X4 at *
      generalize (X4 ++ (⟨#[32, 41]⟩ : ByteArray) : ByteArray) = X5 at *
      obtain ⟨b0, -, -, -, -, -, -, -, -, -, -, -, -, -, -, -, -, -, -⟩ := HX8.out
      go_upto_region 38 with (fail)
      go_quiet (fail)
      go_wp2_with (fail)
      go_ret
      exact ⟨ret_str HF.out, below_then HB0.out ((drewN_below HS8.out _)) HB0.out.size⟩
    · have hlen := HLEN.out
      have hkk := HKK.out
      obtain rfl : j = 2 := by omega
      have hok := HOK.out; have hsm := HSM.out; have hI := HI.out; have hlg := HLG.out
      have hsz := (text_small hok hsm (at_rng hI) HW.out).1
      have kg0 := kw_get (show 0 < t.ks.length by omega)
      have ne0 := ne_parts (kid_all hok (i := 0) (by omega)) (kid_all hsm (i := 0) (by omega))
      have kg1 := kw_get (show 1 < t.ks.length by omega)
      have ne1 := ne_parts (kid_all hok (i := 1) (by omega)) (kid_all hsm (i := 1) (by omega))
      have hfull : (((((((((⟨#[40, 32, 116, 114, 121, 32]⟩ : ByteArray) ++ jb (partsT (tget t.ks 0))) ++ (⟨#[32, 119, 105, 116, 104, 32]⟩ : ByteArray)) ++ h.h.exn) ++ (⟨#[32]⟩ : ByteArray)) ++ h.h.arg) ++ (⟨#[32, 61, 62, 32]⟩ : ByteArray)) ++ jb (partsT (tget t.ks 1))) ++ (⟨#[32, 41]⟩ : ByteArray)) = jb (partsT t) := by
        apply bl_inj
        rw [partsT_eq t, hI.head]
        unfold comb inW
        simp [hk, kg0, kg1, ne0, ne1, bl_append, bl_app, bl_cons, bl_one, List.append_assoc]
        try simp [bl, wComma, wColon, wPut, wTo, wIs, wAdd, wSub, wLess, wFst, wSnd, wFn, wLet, wLetrec, wIn, wIf, wThen, wElse, wRaise, wTry, wWith, wRegion, wOpen, wShut, wStar, wRef, wArrow, wAt, wBang]
      rw [← hfull] at hsz
      try simp only [ByteArray.size_append] at hsz
      have ha0 := add_run (⟨#[40, 32, 116, 114, 121, 32]⟩ : ByteArray) (jb (partsT (tget t.ks 0))) _ rfl (by simp only [ByteArray.size_append]; omega)
      have ha1 := add_run ((⟨#[40, 32, 116, 114, 121, 32]⟩ : ByteArray) ++ jb (partsT (tget t.ks 0))) ((⟨#[32, 119, 105, 116, 104, 32]⟩ : ByteArray)) _ rfl (by simp only [ByteArray.size_append]; omega)
      have ha2 := add_run (((⟨#[40, 32, 116, 114, 121, 32]⟩ : ByteArray) ++ jb (partsT (tget t.ks 0))) ++ (⟨#[32, 119, 105, 116, 104, 32]⟩ : ByteArray)) (h.h.exn) _ rfl (by simp only [ByteArray.size_append]; omega)
      have ha3 := add_run ((((⟨#[40, 32, 116, 114, 121, 32]⟩ : ByteArray) ++ jb (partsT (tget t.ks 0))) ++ (⟨#[32, 119, 105, 116, 104, 32]⟩ : ByteArray)) ++ h.h.exn) ((⟨#[32]⟩ : ByteArray)) _ rfl (by simp only [ByteArray.size_append]; omega)
      have ha4 := add_run (((((⟨#[40, 32, 116, 114, 121, 32]⟩ : ByteArray) ++ jb (partsT (tget t.ks 0))) ++ (⟨#[32, 119, 105, 116, 104, 32]⟩ : ByteArray)) ++ h.h.exn) ++ (⟨#[32]⟩ : ByteArray)) (h.h.arg) _ rfl (by simp only [ByteArray.size_append]; omega)
      have ha5 := add_run ((((((⟨#[40, 32, 116, 114, 121, 32]⟩ : ByteArray) ++ jb (partsT (tget t.ks 0))) ++ (⟨#[32, 119, 105, 116, 104, 32]⟩ : ByteArray)) ++ h.h.exn) ++ (⟨#[32]⟩ : ByteArray)) ++ h.h.arg) ((⟨#[32, 61, 62, 32]⟩ : ByteArray)) _ rfl (by simp only [ByteArray.size_append]; omega)
      have ha6 := add_run (((((((⟨#[40, 32, 116, 114, 121, 32]⟩ : ByteArray) ++ jb (partsT (tget t.ks 0))) ++ (⟨#[32, 119, 105, 116, 104, 32]⟩ : ByteArray)) ++ h.h.exn) ++ (⟨#[32]⟩ : ByteArray)) ++ h.h.arg) ++ (⟨#[32, 61, 62, 32]⟩ : ByteArray)) (jb (partsT (tget t.ks 1))) _ rfl (by simp only [ByteArray.size_append]; omega)
      have ha7 := add_run ((((((((⟨#[40, 32, 116, 114, 121, 32]⟩ : ByteArray) ++ jb (partsT (tget t.ks 0))) ++ (⟨#[32, 119, 105, 116, 104, 32]⟩ : ByteArray)) ++ h.h.exn) ++ (⟨#[32]⟩ : ByteArray)) ++ h.h.arg) ++ (⟨#[32, 61, 62, 32]⟩ : ByteArray)) ++ jb (partsT (tget t.ks 1))) ((⟨#[32, 41]⟩ : ByteArray)) _ rfl (by simp only [ByteArray.size_append]; omega)
      have q1 : (h.h.k == 1) = false := by rw [hk]; rfl
      have q2 : (h.h.k == 2) = false := by rw [hk]; rfl
      have q3 : (h.h.k == 3) = false := by rw [hk]; rfl
      have q4 : (h.h.k == 4) = false := by rw [hk]; rfl
      have q5 : (h.h.k == 5) = false := by rw [hk]; rfl
      have q6 : (h.h.k == 6) = false := by rw [hk]; rfl
      have q7 : (h.h.k == 7) = false := by rw [hk]; rfl
      have q8 : (h.h.k == 8) = false := by rw [hk]; rfl
      have q9 : (h.h.k == 9) = false := by rw [hk]; rfl
      have q10 : (h.h.k == 10) = false := by rw [hk]; rfl
      have q11 : (h.h.k == 11) = false := by rw [hk]; rfl
      have q12 : (h.h.k == 12) = false := by rw [hk]; rfl
      have q13 : (h.h.k == 13) = false := by rw [hk]; rfl
      have q14 : (h.h.k == 14) = false := by rw [hk]; rfl
      have q15 : (h.h.k == 15) = false := by rw [hk]; rfl
      have q16 : (h.h.k == 16) = true := by rw [hk]; rfl
      obtain ⟨g, rfl, -, hcap2, hcells⟩ := Effect.tx_cells HT8.out (by omega)
      have k0 := hcells 0 _ (show (t.ks.map fun u => jb (partsT u))[0]? = some (jb (partsT (tget t.ks 0))) by rw [List.getElem?_map, Aterm.tget_at (show 0 < t.ks.length by omega)]; rfl)
      rw [Nat.zero_add] at k0
      have K0 := Lib.hid k0
      have k1 := hcells 1 _ (show (t.ks.map fun u => jb (partsT u))[1]? = some (jb (partsT (tget t.ks 1))) by rw [List.getElem?_map, Aterm.tget_at (show 1 < t.ks.length by omega)]; rfl)
      rw [Nat.zero_add] at k1
      have K1 := Lib.hid k1
      clear hcells
      have HF := Lib.hid hfull
      clear hfull hlen hkk hok hsm hI hlg hsz hk kg0 ne0 kg1 ne1
      generalize hJ0e : jb (partsT (tget t.ks 0)) = J0 at *
      clear hJ0e
      generalize hJ1e : jb (partsT (tget t.ks 1)) = J1 at *
      clear hJ1e
      generalize ((⟨#[40, 32, 116, 114, 121, 32]⟩ : ByteArray) ++ J0 : ByteArray) = X0 at *
      generalize (X0 ++ (⟨#[32, 119, 105, 116, 104, 32]⟩ : ByteArray) : ByteArray) = X1 at *
      generalize (X1 ++ h.h.exn : ByteArray) = X2 at *
      generalize (X2 ++ (⟨#[32]⟩ : ByteArray) : ByteArray) = X3 at *
      generalize (X3 ++ h.h.arg : ByteArray) = X4 at *
      generalize (X4 ++ (⟨#[32, 61, 62, 32]⟩ : ByteArray) : ByteArray) = X5 at *
      generalize (X5 ++ J1 : ByteArray) = X6 at *
      generalize (X6 ++ (⟨#[32, 41]⟩ : ByteArray) : ByteArray) = X7 at *
      obtain ⟨b0, -, -, -, -, b5, b6, -, -, -, -, -, -, -, -, -, -, -, -⟩ := HX8.out
      go_upto_region 42 with (fail)
      go_quiet (fail)
      go_wp2_with (fail)
      go_ret
      exact ⟨ret_str HF.out, below_then HB0.out ((drewN_below HS8.out _)) HB0.out.size⟩
end Disp
end Go.Proofs.YtkfkpjngiffamaaGreatDoor
