import Derived.Test.YtkfkpjngiffamaaGreatDoorGC08
import Derived.Test.YtkfkpjngiffamaaGreatDoorGC16
import Derived.Test.YtkfkpjngiffamaaGreatDoorGC17
import Derived.Test.YtkfkpjngiffamaaGreatDoorGC18
import Derived.Test.YtkfkpjngiffamaaGreatDoorGC19
namespace Go.Proofs.YtkfkpjngiffamaaGreatDoor
open Go.RowKit
open List (getElem_toArray getElem_cons_succ getElem_cons_zero setIfInBounds_toArray set_cons_zero set_cons_succ)
set_option linter.unusedVariables false
set_option linter.unusedSimpArgs false
namespace Disp
open Effect (At AtOk AtsAt Rd RdI ofA ret_i64 ret_bool lt_of_block heap_alloc_new own_slice digs NumLaid textE)
open Aterm (AT Hd V AtIs HdIs Kids acells tget wt wts nodeB allT allK smallB Box box_of at_load exec_at range_below of_world atInfo)
open Rt (box_new below_then kw wAt wBang)
open Types (jb wInt wOpen wShut wStar wRef wArrow)
set_option maxRecDepth 10000 in
set_option maxHeartbeats 6400000 in
theorem names_13 (w0 : World) (N m : Nat) (hN0 : w0.heap.size ≤ N) (hnl : NumLaid w0) (hT : TermOf w0 N m) (t : AT) (h : Hd) (v : V) (l : Nat) (ss : List ByteArray) (w : World) (hm : wt t ≤ m + 1) (hok : allT nodeB t = true) (hsm : allT smallB t = true) (hI : AtIs w0 h v l t) (hb : Below w0.heap.size w0 w) (hW : WAt N ss w) (hz : ss.length + 80 * wt t ≤ 1000001) (hk : h.h.k = 13) :
  Calls Tryz.prog 70 #[.pointer (some ⟨N, 0, none⟩), .agg #[.int .u8 h.h.k, .int .u8 h.h.op, .int .i64 h.h.pl, .int .i64 h.h.n, .string h.h.name, .string h.h.arg, .string h.h.exn, .int .i64 h.rho, .slice v.ra h.rhos.length v.rc, .slice v.ea h.e.length v.ec, .int .u8 h.ty.h.k, .int .i64 h.ty.h.r, .slice v.tea h.ty.h.e.length v.tec, .slice v.tka h.ty.ks.length v.tkc, .int .u8 h.re.h.k, .int .i64 h.re.h.r, .slice v.sea h.re.h.e.length v.sec, .slice v.ska h.re.ks.length v.skc, .slice v.ka l v.kc]] w (WEnd N (ss ++ inW h (partsK t.ks)) w) := by
 have hNl := hW.lt
 have hlen := hI.len
 have hkk := kinds hok
 rw [hI.head] at hkk
 obtain rfl : l = 2 := by omega
 have hcap := hI.cap
 have hww := wt2 hlen
 obtain ⟨b, o, hka, hkd⟩ := kid_at hI (by omega)
 have ok0 := kid_all hok (i := 0) (by omega)
 have sm0 := kid_all hsm (i := 0) (by omega)
 have wl0 := parts_le ok0 sm0
 have kg0 := kw_get (show 0 < t.ks.length by omega)
 obtain ⟨kv0, hI0, hr0⟩ := hkd 0 (by omega)
 rw [show o + 0 * 19 = o from by omega] at hr0
 have ok1 := kid_all hok (i := 1) (by omega)
 have sm1 := kid_all hsm (i := 1) (by omega)
 have wl1 := parts_le ok1 sm1
 have kg1 := kw_get (show 1 < t.ks.length by omega)
 obtain ⟨kv1, hI1, hr1⟩ := hkd 1 (by omega)
 rw [show o + 1 * 19 = o + 19 from by omega] at hr1
 have hwp := Aterm.wt_pos t
 have hsh : smallB h (0 : Nat) = true := by
  have := top_all hsm
  rw [hI.head] at this
  exact this
 have hlg := Aterm.long_no (h := h) (by unfold smallB at hsh; simpa using hsh)
 have htm := ty_may (top_all hok)
 rw [hI.head] at htm
 have hrl : (rhosW h.rhos).length = h.rhos.length + 2 := by unfold rhosW; simp
 have hr50 := hlg.1.2.2.2
 have es : ss ++ [wLetrec, h.h.name] ++ rhosW h.rhos ++ ([h.h.arg, wColon, tyT h.ty, wArrow, tyT h.re, wBang, efT h.e, wIs] ++ partsT (tget t.ks 0)) ++ atW h.rho ++ ([wIn] ++ partsT (tget t.ks 1)) = ss ++ inW h (partsK t.ks) := by
  unfold inW
  simp [hk, kg0, kg1]
 obtain ⟨O, hx, hst⟩ := st_start h v 2 hW
 have p0 := fun W M hM hSt => put_n (w := w) hx hNl [wLetrec, h.h.name] W M 2 (ss) hM rfl hSt (by (try simp only [List.length_append, List.length_cons, List.length_nil, atW]); omega)
 have p1 := regions_n w0 N hN0 hnl hb hx hNl h.rhos v.ra h.rhos.length v.rc hI.ok.rhos (by omega) hI.ok.rcap (ss ++ [wLetrec, h.h.name]) (by (try simp only [List.length_append, List.length_cons, List.length_nil, atW]); omega)
 have p2 := kid_n w0 N m hN0 hT hb hx hNl (tget t.ks 0) kv0 (by omega) ok0 sm0 hI0 [h.h.arg, wColon, tyT h.ty, wArrow, tyT h.re, wBang, efT h.e, wIs] 8 (ss ++ [wLetrec, h.h.name] ++ rhosW h.rhos) rfl (by (try simp only [List.length_append, List.length_cons, List.length_nil, atW]); omega)
 have d2ty := fun W (hSt : St N w w.heap.size O (ss ++ [wLetrec, h.h.name] ++ rhosW h.rhos) W) => typ_walk h.ty v.tea v.tec v.tka v.tkc W (hI.ok.ty.below (hSt.low hb hN0)) (htm.1 (by omega)) (Rt.small_eff hlg.2.2.1).1 (Rt.small_eff hlg.2.2.1).2 (hnl.below (hSt.low hb hN0))
 have d2re := fun W (hSt : St N w w.heap.size O (ss ++ [wLetrec, h.h.name] ++ rhosW h.rhos) W) => typ_walk h.re v.sea v.sec v.ska v.skc W (hI.ok.re.below (hSt.low hb hN0)) (htm.2 hk) (Rt.small_eff hlg.2.2.2).1 (Rt.small_eff hlg.2.2.2).2 (hnl.below (hSt.low hb hN0))
 have d2ef := fun W (hSt : St N w w.heap.size O (ss ++ [wLetrec, h.h.name] ++ rhosW h.rhos) W) => Effect.text_walk (c := v.ec) (hI.ok.eff.below (hSt.low hb hN0)).rd (by have := (Effect.great_no hlg.2.1).1; omega) (Rt.sh_eff (n := 100) hI.ok.eok (Effect.great_no hlg.2.1).2 (by omega)) (hnl.below (hSt.low hb hN0))
 have p3 := at_n w0 N hN0 hnl hb hx hNl h.rho hI.ok.rho (ss ++ [wLetrec, h.h.name] ++ rhosW h.rhos ++ ([h.h.arg, wColon, tyT h.ty, wArrow, tyT h.re, wBang, efT h.e, wIs] ++ partsT (tget t.ks 0))) (by (try simp only [List.length_append, List.length_cons, List.length_nil, atW]); omega)
 have p4 := kid_n w0 N m hN0 hT hb hx hNl (tget t.ks 1) kv1 (by omega) ok1 sm1 hI1 [wIn] 1 (ss ++ [wLetrec, h.h.name] ++ rhosW h.rhos ++ ([h.h.arg, wColon, tyT h.ty, wArrow, tyT h.re, wBang, efT h.e, wIs] ++ partsT (tget t.ks 0)) ++ atW h.rho) rfl (by (try simp only [List.length_append, List.length_cons, List.length_nil, atW]); omega)
 have hlow := fun W ss' (hSt : St N w w.heap.size O ss' W) => hSt.low hb hN0
 have Hp0 := Lib.hid p0; have Hp1 := Lib.hid p1; have Hp2 := Lib.hid p2; have Hd2ty := Lib.hid d2ty; have Hd2re := Lib.hid d2re; have Hd2ef := Lib.hid d2ef; have Hp3 := Lib.hid p3; have Hp4 := Lib.hid p4; have HL := Lib.hid hlow; have HX := Lib.hid hx; have HN := Lib.hid hNl; have ES := Lib.hid es; have HR0 := Lib.hid hr0; have HR1 := Lib.hid hr1; have HKA := Lib.hid hka
 have hcq := hcap.1
 have hcl : v.kc ≤ 9223372036854775807 := hcap.2
 have q11 : (h.h.k == 11) = false := by rw [hk]; rfl
 have q12 : (h.h.k == 12) = false := by rw [hk]; rfl
 have q13 : (h.h.k == 13) = true := by rw [hk]; rfl
 have q15 : (h.h.k == 15) = false := by rw [hk]; rfl
 have q16 : (h.h.k == 16) = false := by rw [hk]; rfl
 have q17 : (h.h.k == 17) = false := by rw [hk]; rfl
 have q18 : (h.h.k == 18) = false := by rw [hk]; rfl
 have hst2 := hst
 clear p0 p1 p2 d2ty d2re d2ef p3 p4 hlow hx hNl es hr0 hr1 hka hst hW hz hm hok hsm hI hb hN0 hT hnl hlen hkk hcap hwp hsh hlg htm hww hkd hrl hr50 hI0 hI1 ok0 sm0 wl0 kg0 ok1 sm1 wl1 kg1
 clear hk
 go_enter Tryz.func70, Tryz.ntmps70
 go_upto_region 1 with (fail)
 refine of_world (F := fun V => St N w w.heap.size O ss V) hst2 ?_
 intro W0 hst0
 have HS0 := Lib.hid hst0
 clear hst2 hst0
 obtain ⟨b0, -, -, -, b4, -, -, -, -, -, -, -, -, -, -, -, -, -, -⟩ := HX.out.box W0 HS0.out.2.2
 go_wp2_with (fail)
 refine (Hp0.out W0 _ rfl HS0.out).mono ?_
 rintro e w1 ⟨rfl, h0⟩
 have HS1 := Lib.hid h0
 clear h0 b0 b4
 obtain ⟨-, -, -, -, -, -, -, -, b8, -, -, -, -, -, -, -, -, -, -⟩ := HX.out.box w1 HS1.out.2.2
 go_wp2_with (fail)
 refine (Hp1.out w1 HS1.out).mono ?_
 rintro e w2 ⟨rfl, h1⟩
 have HS2 := Lib.hid h1
 clear h1 b8
 go_upto_region 11 with (fail)
 have hini : St N w w.heap.size O (ss ++ [wLetrec, h.h.name] ++ rhosW h.rhos) w2.drew := HS2.out.drew
 refine wp_region_held_drew (S := fun (V : World) => V.heap[w.heap.size]? = some O ∧ Below w0.heap.size w0 V) (by kernel_rfl) ⟨hini.2.2, HL.out _ _ hini⟩ (fun hHeld => ?_)
 have HI2 := Lib.hid hini
 clear hini
 generalize w2.drew = y2 at *
 refine tk (i := 0) (v := .pointer (some ⟨N, 0, none⟩)) rfl (by kernel_rfl) (fun _ _ _ h => h) (by rfl) ?_ (by assumption) ?_
 ·intro w' hSw
  first | (go_simp; done) | rfl
 refine tk (i := 1) (v := .pointer (some ⟨w.heap.size, 18, none⟩)) rfl (by kernel_rfl) (fun _ _ _ h => h) (by rfl) ?_ (by assumption) ?_
 ·intro w' hSw
  first | (go_simp; done) | rfl
 try simp only [Act.put, getElem_toArray, getElem_cons_succ, getElem_cons_zero, setIfInBounds_toArray, set_cons_zero, set_cons_succ]
 refine tk (i := 2) (v := .slice (some ⟨b, o, none⟩) 2 v.kc) rfl (by kernel_rfl) (fun _ _ _ h => h) (by rfl) ?_ (by assumption) ?_
 ·intro w' hSw
  obtain ⟨-, -, -, -, -, -, -, -, -, -, -, -, -, -, -, -, -, -, b18⟩ := HX.out.box w' hSw.1
  rw [HKA.out] at b18
  first | (go_simp; done) | rfl
 refine tk (i := 3) (v := .pointer (some ⟨b, o, none⟩)) rfl (by kernel_rfl) (fun _ _ _ h => h) (by rfl) ?_ (by assumption) ?_
 ·intro w' hSw
  first | (go_simp; done) | rfl
 try simp only [Act.put, getElem_toArray, getElem_cons_succ, getElem_cons_zero, setIfInBounds_toArray, set_cons_zero, set_cons_succ]
 refine tk (i := 4) (v := .agg #[.int .u8 (tget t.ks 0).h.h.k, .int .u8 (tget t.ks 0).h.h.op, .int .i64 (tget t.ks 0).h.h.pl, .int .i64 (tget t.ks 0).h.h.n, .string (tget t.ks 0).h.h.name, .string (tget t.ks 0).h.h.arg, .string (tget t.ks 0).h.h.exn, .int .i64 (tget t.ks 0).h.rho, .slice kv0.ra (tget t.ks 0).h.rhos.length kv0.rc, .slice kv0.ea (tget t.ks 0).h.e.length kv0.ec, .int .u8 (tget t.ks 0).h.ty.h.k, .int .i64 (tget t.ks 0).h.ty.h.r, .slice kv0.tea (tget t.ks 0).h.ty.h.e.length kv0.tec, .slice kv0.tka (tget t.ks 0).h.ty.ks.length kv0.tkc, .int .u8 (tget t.ks 0).h.re.h.k, .int .i64 (tget t.ks 0).h.re.h.r, .slice kv0.sea (tget t.ks 0).h.re.h.e.length kv0.sec, .slice kv0.ska (tget t.ks 0).h.re.ks.length kv0.skc, .slice kv0.ka (tget t.ks 0).ks.length kv0.kc]) rfl (by kernel_rfl) (fun _ _ _ h => h) (by rfl) ?_ (by assumption) ?_
 ·intro w' hSw
  exact exec_at _ rfl b (o) rfl (HR0.out w' hSw.2)
 refine tk (i := 5) (v := .pointer (some ⟨w.heap.size, 0, none⟩)) rfl (by kernel_rfl) (fun _ _ _ h => h) (by rfl) ?_ (by assumption) ?_
 ·intro w' hSw
  first | (go_simp; done) | rfl
 try simp only [Act.put, getElem_toArray, getElem_cons_succ, getElem_cons_zero, setIfInBounds_toArray, set_cons_zero, set_cons_succ]
 refine tk (i := 6) (v := .pointer (some ⟨w.heap.size, 5, none⟩)) rfl (by kernel_rfl) (fun _ _ _ h => h) (by rfl) ?_ (by assumption) ?_
 ·intro w' hSw
  first | (go_simp; done) | rfl
 refine tk (i := 7) (v := .string h.h.arg) rfl (by kernel_rfl) (fun _ _ _ h => h) (by rfl) ?_ (by assumption) ?_
 ·intro w' hSw
  obtain ⟨-, -, -, -, -, b5, -, -, -, -, -, -, -, -, -, -, -, -, -⟩ := HX.out.box w' hSw.1
  first | (go_simp; done) | rfl
 try simp only [Act.put, getElem_toArray, getElem_cons_succ, getElem_cons_zero, setIfInBounds_toArray, set_cons_zero, set_cons_succ]
 refine tk (i := 8) (v := .pointer (some ⟨w.heap.size, 10, none⟩)) rfl (by kernel_rfl) (fun _ _ _ h => h) (by rfl) ?_ (by assumption) ?_
 ·intro w' hSw
  first | (go_simp; done) | rfl
 refine tk (i := 9) (v := .agg #[.int .u8 h.ty.h.k, .int .i64 h.ty.h.r, .slice v.tea h.ty.h.e.length v.tec, .slice v.tka h.ty.ks.length v.tkc]) rfl (by kernel_rfl) (fun _ _ _ h => h) (by rfl) ?_ (by assumption) ?_
 ·intro w' hSw
  exact exec_rt _ rfl w.heap.size 10 rfl (HX.out.ty hSw.1)
 try simp only [Act.put, getElem_toArray, getElem_cons_succ, getElem_cons_zero, setIfInBounds_toArray, set_cons_zero, set_cons_succ]
 refine tk (i := 11) (v := .pointer (some ⟨w.heap.size, 14, none⟩)) rfl (by kernel_rfl) (fun _ _ _ h => h) (by rfl) ?_ (by assumption) ?_
 ·intro w' hSw
  first | (go_simp; done) | rfl
 refine tk (i := 12) (v := .agg #[.int .u8 h.re.h.k, .int .i64 h.re.h.r, .slice v.sea h.re.h.e.length v.sec, .slice v.ska h.re.ks.length v.skc]) rfl (by kernel_rfl) (fun _ _ _ h => h) (by rfl) ?_ (by assumption) ?_
 ·intro w' hSw
  exact exec_rt _ rfl w.heap.size 14 rfl (HX.out.re hSw.1)
 try simp only [Act.put, getElem_toArray, getElem_cons_succ, getElem_cons_zero, setIfInBounds_toArray, set_cons_zero, set_cons_succ]
 refine tk (i := 14) (v := .pointer (some ⟨w.heap.size, 9, none⟩)) rfl (by kernel_rfl) (fun _ _ _ h => h) (by rfl) ?_ (by assumption) ?_
 ·intro w' hSw
  first | (go_simp; done) | rfl
 refine tk (i := 15) (v := .slice v.ea h.e.length v.ec) rfl (by kernel_rfl) (fun _ _ _ h => h) (by rfl) ?_ (by assumption) ?_
 ·intro w' hSw
  obtain ⟨-, -, -, -, -, -, -, -, -, b9, -, -, -, -, -, -, -, -, -⟩ := HX.out.box w' hSw.1
  first | (go_simp; done) | rfl
 try simp only [Act.put, getElem_toArray, getElem_cons_succ, getElem_cons_zero, setIfInBounds_toArray, set_cons_zero, set_cons_succ]
 refine wpAnyH_ready (rs := [10]) (by kernel_rfl) (by simp) ?_
 refine AllReadyH.cons rfl (fun K hK => ?_) AllReadyH.nil
 have HK2 := Lib.hid hK
 clear hK
 try rw [if_pos (by rfl)]
 go_simp
 refine (Hd2ty.out y2 HI2.out).mono ?_
 rintro e z2_0 ⟨rfl, g⟩
 have HZ2_0 := Lib.hid (HI2.out.quiet g)
 clear g
 refine HK2.out _ _ ⟨HZ2_0.out.2.2, HL.out _ _ HZ2_0.out⟩ (fun hHeld => ?_)
 clear HK2
 try simp only [Act.put, getElem_toArray, getElem_cons_succ, getElem_cons_zero, setIfInBounds_toArray, set_cons_zero, set_cons_succ]
 clear K
 refine wpAnyH_ready (rs := [13]) (by kernel_rfl) (by simp) ?_
 refine AllReadyH.cons rfl (fun K hK => ?_) AllReadyH.nil
 have HK2 := Lib.hid hK
 clear hK
 try rw [if_pos (by rfl)]
 go_simp
 refine (Hd2re.out z2_0 HZ2_0.out).mono ?_
 rintro e z2_1 ⟨rfl, g⟩
 have HZ2_1 := Lib.hid (HZ2_0.out.quiet g)
 clear g
 refine HK2.out _ _ ⟨HZ2_1.out.2.2, HL.out _ _ HZ2_1.out⟩ (fun hHeld => ?_)
 clear HK2
 try simp only [Act.put, getElem_toArray, getElem_cons_succ, getElem_cons_zero, setIfInBounds_toArray, set_cons_zero, set_cons_succ]
 clear K
 refine wpAnyH_ready (rs := [16]) (by kernel_rfl) (by simp) ?_
 refine AllReadyH.cons rfl (fun K hK => ?_) AllReadyH.nil
 have HK2 := Lib.hid hK
 clear hK
 try rw [if_pos (by rfl)]
 go_simp
 refine (Hd2ef.out z2_1 HZ2_1.out).mono ?_
 rintro e z2_2 ⟨rfl, g⟩
 have HZ2_2 := Lib.hid (HZ2_1.out.quiet g)
 clear g
 refine HK2.out _ _ ⟨HZ2_2.out.2.2, HL.out _ _ HZ2_2.out⟩ (fun hHeld => ?_)
 clear HK2
 try simp only [Act.put, getElem_toArray, getElem_cons_succ, getElem_cons_zero, setIfInBounds_toArray, set_cons_zero, set_cons_succ]
 clear K
 refine wpAnyH_ready (rs := [17]) (by kernel_rfl) (by simp) ?_
 refine AllReadyH.cons rfl (fun K hK => ?_) AllReadyH.nil
 have HK2 := Lib.hid hK
 clear hK
 try rw [if_pos (by rfl)]
 go_simp
 refine HK2.out _ _ ⟨(HZ2_2.out.alloc (.cells #[.string (h.h.arg), .string ⟨#[58]⟩, .string (tyT h.ty), .string ⟨#[45, 62]⟩, .string (tyT h.re), .string ⟨#[33]⟩, .string (efT h.e), .string ⟨#[61]⟩] 9)).2.2, HL.out _ _ (HZ2_2.out.alloc _)⟩ (fun hHeld => ?_)
 clear HK2
 try simp only [Act.put, getElem_toArray, getElem_cons_succ, getElem_cons_zero, setIfInBounds_toArray, set_cons_zero, set_cons_succ]
 clear K
 refine wpAnyH_ready (rs := [18]) (by kernel_rfl) (by simp) ?_
 refine AllReadyH.cons rfl (fun K hK => ?_) AllReadyH.nil
 have HK2 := Lib.hid hK
 clear hK
 try rw [if_pos (by rfl)]
 go_simp
 refine (Hp2.out z2_2 _ rfl HZ2_2.out).mono ?_
 rintro e w3 ⟨rfl, h2⟩
 have HS3 := Lib.hid h2
 clear h2
 refine HK2.out _ _ ⟨HS3.out.2.2, HL.out _ _ HS3.out⟩ (fun hHeld => ?_)
 clear HK2
 try simp only [Act.put, getElem_toArray, getElem_cons_succ, getElem_cons_zero, setIfInBounds_toArray, set_cons_zero, set_cons_succ]
 clear K
 refine wpAnyH_done (by kernel_rfl) ?_ _
 clear hHeld
 obtain ⟨-, -, -, -, -, -, -, b7, -, -, -, -, -, -, -, -, -, -, -⟩ := HX.out.box w3 HS3.out.2.2
 go_wp2_with (fail)
 refine (Hp3.out w3 HS3.out).mono ?_
 rintro e w4 ⟨rfl, h3⟩
 have HS4 := Lib.hid h3
 clear h3 b7
 obtain ⟨-, -, -, -, -, -, -, -, -, -, -, -, -, -, -, -, -, -, b18⟩ := HX.out.box w4 HS4.out.2.2
 rw [HKA.out] at b18
 have HK := Lib.hid (HR1.out w4 (HL.out w4 _ HS4.out))
 go_wp2_with (refine at_load rfl _ rfl b (o + 19) rfl HK.out ?_)
 refine (Hp4.out w4 _ rfl HS4.out).mono ?_
 rintro e w5 ⟨rfl, h4⟩
 have HS5 := Lib.hid h4
 clear h4 b18 HK
 go_wp2_with (fail)
 go_end0
 exact HS5.out.end_.cast ES.out
end Disp
end Go.Proofs.YtkfkpjngiffamaaGreatDoor
namespace Go.Proofs.YtkfkpjngiffamaaGreatDoor
open Go.RowKit
open List (getElem_toArray getElem_cons_succ getElem_cons_zero setIfInBounds_toArray set_cons_zero set_cons_succ)
set_option linter.unusedVariables false
set_option linter.unusedSimpArgs false
namespace Disp
open Effect (At AtOk AtsAt Rd RdI ofA ret_i64 ret_bool lt_of_block heap_alloc_new own_slice digs NumLaid textE)
open Aterm (AT Hd V AtIs HdIs Kids acells tget wt wts nodeB allT allK smallB Box box_of at_load exec_at range_below of_world atInfo)
open Rt (box_new below_then kw wAt wBang)
open Types (jb wInt wOpen wShut wStar wRef wArrow)
def SgLaid (w : World) : Prop := ∀ k : Nat, 1 ≤ k → k < 6 → w.cell? ⟨2, k, none⟩ = some (.string (signW k))
theorem SgLaid.below {w W : World} (h : SgLaid w) (hb : Below w.heap.size w W) : SgLaid W := fun k h1 h2 => by
 have hl : 2 < w.heap.size := World.block_lt_of_cell? w _ (h k h1 h2)
 exact (hb.cell (p := ⟨2, k, none⟩) hl).trans (h k h1 h2)
set_option maxRecDepth 10000 in
set_option maxHeartbeats 6400000 in
theorem within_9 (w0 : World) (N m : Nat) (hN0 : w0.heap.size ≤ N) (hnl : NumLaid w0) (hT : TermOf w0 N m) (hsg : SgLaid w0) (t : AT) (h : Hd) (v : V) (l : Nat) (ss : List ByteArray) (w : World) (hm : wt t ≤ m + 1) (hok : allT nodeB t = true) (hsm : allT smallB t = true) (hI : AtIs w0 h v l t) (hb : Below w0.heap.size w0 w) (hW : WAt N ss w) (hz : ss.length + 80 * wt t ≤ 1000001) (hk : h.h.k = 9) :
  Calls Tryz.prog 48 #[.pointer (some ⟨N, 0, none⟩), .agg #[.int .u8 h.h.k, .int .u8 h.h.op, .int .i64 h.h.pl, .int .i64 h.h.n, .string h.h.name, .string h.h.arg, .string h.h.exn, .int .i64 h.rho, .slice v.ra h.rhos.length v.rc, .slice v.ea h.e.length v.ec, .int .u8 h.ty.h.k, .int .i64 h.ty.h.r, .slice v.tea h.ty.h.e.length v.tec, .slice v.tka h.ty.ks.length v.tkc, .int .u8 h.re.h.k, .int .i64 h.re.h.r, .slice v.sea h.re.h.e.length v.sec, .slice v.ska h.re.ks.length v.skc, .slice v.ka l v.kc]] w (WEnd N (ss ++ inW h (partsK t.ks)) w) := by
 have hNl := hW.lt
 have hlen := hI.len
 have hkk := kinds hok
 rw [hI.head] at hkk
 obtain rfl : l = 2 := by omega
 have hcap := hI.cap
 have hww := wt2 hlen
 obtain ⟨b, o, hka, hkd⟩ := kid_at hI (by omega)
 have ok0 := kid_all hok (i := 0) (by omega)
 have sm0 := kid_all hsm (i := 0) (by omega)
 have wl0 := parts_le ok0 sm0
 have kg0 := kw_get (show 0 < t.ks.length by omega)
 have ok1 := kid_all hok (i := 1) (by omega)
 have sm1 := kid_all hsm (i := 1) (by omega)
 have wl1 := parts_le ok1 sm1
 have kg1 := kw_get (show 1 < t.ks.length by omega)
 have hwp := Aterm.wt_pos t
 have hsg9 := fun W (hW : Below w0.heap.size w0 W) => (hsg.below hW)
 have hops : h.h.op = 1 ∨ h.h.op = 2 ∨ h.h.op = 3 ∨ h.h.op = 4 ∨ h.h.op = 5 := by
  have nd := nd_of (top_all hok)
  rw [hI.head] at nd
  have := iff_pos nd.op hk
  omega
 have hsh : smallB h (0 : Nat) = true := by
  have := top_all hsm
  rw [hI.head] at this
  exact this
 have hlg := Aterm.long_no (h := h) (by unfold smallB at hsh; simpa using hsh)
 have htm := ty_may (top_all hok)
 rw [hI.head] at htm
 have es : ss ++ (partsT (tget t.ks 0) ++ ([(signW h.h.op)] ++ partsT (tget t.ks 1))) = ss ++ inW h (partsK t.ks) := by
  unfold inW
  simp [hk, kg0, kg1]
 obtain ⟨O, hx, hst⟩ := st_start h v 2 hW
 have p0 := two_n w0 N m hN0 hT hb hx hNl t hm hok hsm hI (signW h.h.op) (ss) (by omega)
 have hlow := fun W ss' (hSt : St N w w.heap.size O ss' W) => hSt.low hb hN0
 have Hp0 := Lib.hid p0; have HL := Lib.hid hlow; have HX := Lib.hid hx; have HN := Lib.hid hNl; have ES := Lib.hid es; have HKA := Lib.hid hka
 have hcq := hcap.1
 have hcl : v.kc ≤ 9223372036854775807 := hcap.2
 have q3 : (h.h.k == 3) = false := by rw [hk]; rfl
 have q4 : (h.h.k == 4) = false := by rw [hk]; rfl
 have q5 : (h.h.k == 5) = false := by rw [hk]; rfl
 have q6 : (h.h.k == 6) = false := by rw [hk]; rfl
 have q7 : (h.h.k == 7) = false := by rw [hk]; rfl
 have q8 : (h.h.k == 8) = false := by rw [hk]; rfl
 have q9 : (h.h.k == 9) = true := by rw [hk]; rfl
 have q10 : (h.h.k == 10) = false := by rw [hk]; rfl
 have q14 : (h.h.k == 14) = false := by rw [hk]; rfl
 have hst2 := hst
 clear p0 hlow hx hNl es hka hst hW hz hm hok hsm hI hb hN0 hT hnl hlen hkk hcap hwp hsh hlg htm hww hkd ok0 sm0 wl0 kg0 ok1 sm1 wl1 kg1
 have HSG := Lib.hid hsg9; have HOPS := Lib.hid hops
 clear hk hsg hsg9 hops
 go_enter Tryz.func48, Tryz.ntmps48
 go_upto_region 1 with (fail)
 refine of_world (F := fun V => St N w w.heap.size O ss V) hst2 ?_
 intro W0 hst0
 have HS0 := Lib.hid hst0
 clear hst2 hst0
 obtain ⟨b0, -, -, -, -, -, -, -, -, -, -, -, -, -, -, -, -, -, -⟩ := HX.out.box W0 HS0.out.2.2
 go_upto_region 18 with (fail)
 clear b0
 rcases HOPS.out with hop | hop | hop | hop | hop
 ·rw [hop] at Hp0 ES
  have hini : St N w w.heap.size O ss W0.drew := HS0.out.drew
  refine wp_region_held_drew (S := fun (V : World) => V.heap[w.heap.size]? = some O ∧ Below w0.heap.size w0 V) (by kernel_rfl) ⟨hini.2.2, HL.out _ _ hini⟩ (fun hHeld => ?_)
  have HI0 := Lib.hid hini
  clear hini
  generalize W0.drew = y0 at *
  refine tk (i := 0) (v := .pointer (some ⟨N, 0, none⟩)) rfl (by kernel_rfl) (fun _ _ _ h => h) (by rfl) ?_ (by assumption) ?_
  ·intro w' hSw
   first | (go_simp; done) | rfl
  refine tk (i := 1) (v := .agg #[.int .u8 h.h.k, .int .u8 h.h.op, .int .i64 h.h.pl, .int .i64 h.h.n, .string h.h.name, .string h.h.arg, .string h.h.exn, .int .i64 h.rho, .slice v.ra h.rhos.length v.rc, .slice v.ea h.e.length v.ec, .int .u8 h.ty.h.k, .int .i64 h.ty.h.r, .slice v.tea h.ty.h.e.length v.tec, .slice v.tka h.ty.ks.length v.tkc, .int .u8 h.re.h.k, .int .i64 h.re.h.r, .slice v.sea h.re.h.e.length v.sec, .slice v.ska h.re.ks.length v.skc, .slice v.ka 2 v.kc]) rfl (by kernel_rfl) (fun _ _ _ h => h) (by rfl) ?_ (by assumption) ?_
  ·intro w' hSw
   exact exec_at _ rfl w.heap.size 0 rfl (HX.out.rng hSw.1)
  try simp only [Act.put, getElem_toArray, getElem_cons_succ, getElem_cons_zero, setIfInBounds_toArray, set_cons_zero, set_cons_succ]
  refine tk (i := 2) (v := .pointer (some ⟨w.heap.size, 0, none⟩)) rfl (by kernel_rfl) (fun _ _ _ h => h) (by rfl) ?_ (by assumption) ?_
  ·intro w' hSw
   first | (go_simp; done) | rfl
  refine tk (i := 3) (v := .pointer (some ⟨w.heap.size, 1, none⟩)) rfl (by kernel_rfl) (fun _ _ _ h => h) (by rfl) ?_ (by assumption) ?_
  ·intro w' hSw
   first | (go_simp; done) | rfl
  try simp only [Act.put, getElem_toArray, getElem_cons_succ, getElem_cons_zero, setIfInBounds_toArray, set_cons_zero, set_cons_succ]
  refine tk (i := 4) (v := .int .u8 1) rfl (by kernel_rfl) (fun _ _ _ h => h) (by rfl) ?_ (by assumption) ?_
  ·intro w' hSw
   obtain ⟨-, b1, -, -, -, -, -, -, -, -, -, -, -, -, -, -, -, -, -⟩ := HX.out.box w' hSw.1
   rw [hop] at b1
   first | (go_simp; done) | rfl
  refine tk (i := 5) (v := .pointer (some ⟨2, 1, none⟩)) rfl (by kernel_rfl) (fun _ _ _ h => h) (by rfl) ?_ (by assumption) ?_
  ·intro w' hSw
   first | (go_simp; done) | rfl | kernel_rfl
  try simp only [Act.put, getElem_toArray, getElem_cons_succ, getElem_cons_zero, setIfInBounds_toArray, set_cons_zero, set_cons_succ]
  refine tk (i := 6) (v := .string (signW 1)) rfl (by kernel_rfl) (fun _ _ _ h => h) (by rfl) ?_ (by assumption) ?_
  ·intro w' hSw
   have sg := HSG.out w' hSw.2 1 (by omega) (by omega)
   first | (go_simp; done) | (simpa using sg) | rfl
  try simp only [Act.put, getElem_toArray, getElem_cons_succ, getElem_cons_zero, setIfInBounds_toArray, set_cons_zero, set_cons_succ]
  refine wpAnyH_ready (rs := [7]) (by kernel_rfl) (by simp) ?_
  refine AllReadyH.cons rfl (fun K hK => ?_) AllReadyH.nil
  have HK2 := Lib.hid hK
  clear hK
  try rw [if_pos (by rfl)]
  go_simp
  refine (Hp0.out y0 HI0.out).mono ?_
  rintro e w1 ⟨rfl, h0⟩
  have HS1 := Lib.hid h0
  clear h0
  refine HK2.out _ _ ⟨HS1.out.2.2, HL.out _ _ HS1.out⟩ (fun hHeld => ?_)
  clear HK2
  try simp only [Act.put, getElem_toArray, getElem_cons_succ, getElem_cons_zero, setIfInBounds_toArray, set_cons_zero, set_cons_succ]
  clear K
  refine wpAnyH_done (by kernel_rfl) ?_ _
  clear hHeld
  go_wp2_with (fail)
  go_end0
  exact HS1.out.end_.cast ES.out
 ·rw [hop] at Hp0 ES
  have hini : St N w w.heap.size O ss W0.drew := HS0.out.drew
  refine wp_region_held_drew (S := fun (V : World) => V.heap[w.heap.size]? = some O ∧ Below w0.heap.size w0 V) (by kernel_rfl) ⟨hini.2.2, HL.out _ _ hini⟩ (fun hHeld => ?_)
  have HI0 := Lib.hid hini
  clear hini
  generalize W0.drew = y0 at *
  refine tk (i := 0) (v := .pointer (some ⟨N, 0, none⟩)) rfl (by kernel_rfl) (fun _ _ _ h => h) (by rfl) ?_ (by assumption) ?_
  ·intro w' hSw
   first | (go_simp; done) | rfl
  refine tk (i := 1) (v := .agg #[.int .u8 h.h.k, .int .u8 h.h.op, .int .i64 h.h.pl, .int .i64 h.h.n, .string h.h.name, .string h.h.arg, .string h.h.exn, .int .i64 h.rho, .slice v.ra h.rhos.length v.rc, .slice v.ea h.e.length v.ec, .int .u8 h.ty.h.k, .int .i64 h.ty.h.r, .slice v.tea h.ty.h.e.length v.tec, .slice v.tka h.ty.ks.length v.tkc, .int .u8 h.re.h.k, .int .i64 h.re.h.r, .slice v.sea h.re.h.e.length v.sec, .slice v.ska h.re.ks.length v.skc, .slice v.ka 2 v.kc]) rfl (by kernel_rfl) (fun _ _ _ h => h) (by rfl) ?_ (by assumption) ?_
  ·intro w' hSw
   exact exec_at _ rfl w.heap.size 0 rfl (HX.out.rng hSw.1)
  try simp only [Act.put, getElem_toArray, getElem_cons_succ, getElem_cons_zero, setIfInBounds_toArray, set_cons_zero, set_cons_succ]
  refine tk (i := 2) (v := .pointer (some ⟨w.heap.size, 0, none⟩)) rfl (by kernel_rfl) (fun _ _ _ h => h) (by rfl) ?_ (by assumption) ?_
  ·intro w' hSw
   first | (go_simp; done) | rfl
  refine tk (i := 3) (v := .pointer (some ⟨w.heap.size, 1, none⟩)) rfl (by kernel_rfl) (fun _ _ _ h => h) (by rfl) ?_ (by assumption) ?_
  ·intro w' hSw
   first | (go_simp; done) | rfl
  try simp only [Act.put, getElem_toArray, getElem_cons_succ, getElem_cons_zero, setIfInBounds_toArray, set_cons_zero, set_cons_succ]
  refine tk (i := 4) (v := .int .u8 2) rfl (by kernel_rfl) (fun _ _ _ h => h) (by rfl) ?_ (by assumption) ?_
  ·intro w' hSw
   obtain ⟨-, b1, -, -, -, -, -, -, -, -, -, -, -, -, -, -, -, -, -⟩ := HX.out.box w' hSw.1
   rw [hop] at b1
   first | (go_simp; done) | rfl
  refine tk (i := 5) (v := .pointer (some ⟨2, 2, none⟩)) rfl (by kernel_rfl) (fun _ _ _ h => h) (by rfl) ?_ (by assumption) ?_
  ·intro w' hSw
   first | (go_simp; done) | rfl | kernel_rfl
  try simp only [Act.put, getElem_toArray, getElem_cons_succ, getElem_cons_zero, setIfInBounds_toArray, set_cons_zero, set_cons_succ]
  refine tk (i := 6) (v := .string (signW 2)) rfl (by kernel_rfl) (fun _ _ _ h => h) (by rfl) ?_ (by assumption) ?_
  ·intro w' hSw
   have sg := HSG.out w' hSw.2 2 (by omega) (by omega)
   first | (go_simp; done) | (simpa using sg) | rfl
  try simp only [Act.put, getElem_toArray, getElem_cons_succ, getElem_cons_zero, setIfInBounds_toArray, set_cons_zero, set_cons_succ]
  refine wpAnyH_ready (rs := [7]) (by kernel_rfl) (by simp) ?_
  refine AllReadyH.cons rfl (fun K hK => ?_) AllReadyH.nil
  have HK2 := Lib.hid hK
  clear hK
  try rw [if_pos (by rfl)]
  go_simp
  refine (Hp0.out y0 HI0.out).mono ?_
  rintro e w1 ⟨rfl, h0⟩
  have HS1 := Lib.hid h0
  clear h0
  refine HK2.out _ _ ⟨HS1.out.2.2, HL.out _ _ HS1.out⟩ (fun hHeld => ?_)
  clear HK2
  try simp only [Act.put, getElem_toArray, getElem_cons_succ, getElem_cons_zero, setIfInBounds_toArray, set_cons_zero, set_cons_succ]
  clear K
  refine wpAnyH_done (by kernel_rfl) ?_ _
  clear hHeld
  go_wp2_with (fail)
  go_end0
  exact HS1.out.end_.cast ES.out
 ·rw [hop] at Hp0 ES
  have hini : St N w w.heap.size O ss W0.drew := HS0.out.drew
  refine wp_region_held_drew (S := fun (V : World) => V.heap[w.heap.size]? = some O ∧ Below w0.heap.size w0 V) (by kernel_rfl) ⟨hini.2.2, HL.out _ _ hini⟩ (fun hHeld => ?_)
  have HI0 := Lib.hid hini
  clear hini
  generalize W0.drew = y0 at *
  refine tk (i := 0) (v := .pointer (some ⟨N, 0, none⟩)) rfl (by kernel_rfl) (fun _ _ _ h => h) (by rfl) ?_ (by assumption) ?_
  ·intro w' hSw
   first | (go_simp; done) | rfl
  refine tk (i := 1) (v := .agg #[.int .u8 h.h.k, .int .u8 h.h.op, .int .i64 h.h.pl, .int .i64 h.h.n, .string h.h.name, .string h.h.arg, .string h.h.exn, .int .i64 h.rho, .slice v.ra h.rhos.length v.rc, .slice v.ea h.e.length v.ec, .int .u8 h.ty.h.k, .int .i64 h.ty.h.r, .slice v.tea h.ty.h.e.length v.tec, .slice v.tka h.ty.ks.length v.tkc, .int .u8 h.re.h.k, .int .i64 h.re.h.r, .slice v.sea h.re.h.e.length v.sec, .slice v.ska h.re.ks.length v.skc, .slice v.ka 2 v.kc]) rfl (by kernel_rfl) (fun _ _ _ h => h) (by rfl) ?_ (by assumption) ?_
  ·intro w' hSw
   exact exec_at _ rfl w.heap.size 0 rfl (HX.out.rng hSw.1)
  try simp only [Act.put, getElem_toArray, getElem_cons_succ, getElem_cons_zero, setIfInBounds_toArray, set_cons_zero, set_cons_succ]
  refine tk (i := 2) (v := .pointer (some ⟨w.heap.size, 0, none⟩)) rfl (by kernel_rfl) (fun _ _ _ h => h) (by rfl) ?_ (by assumption) ?_
  ·intro w' hSw
   first | (go_simp; done) | rfl
  refine tk (i := 3) (v := .pointer (some ⟨w.heap.size, 1, none⟩)) rfl (by kernel_rfl) (fun _ _ _ h => h) (by rfl) ?_ (by assumption) ?_
  ·intro w' hSw
   first | (go_simp; done) | rfl
  try simp only [Act.put, getElem_toArray, getElem_cons_succ, getElem_cons_zero, setIfInBounds_toArray, set_cons_zero, set_cons_succ]
  refine tk (i := 4) (v := .int .u8 3) rfl (by kernel_rfl) (fun _ _ _ h => h) (by rfl) ?_ (by assumption) ?_
  ·intro w' hSw
   obtain ⟨-, b1, -, -, -, -, -, -, -, -, -, -, -, -, -, -, -, -, -⟩ := HX.out.box w' hSw.1
   rw [hop] at b1
   first | (go_simp; done) | rfl
  refine tk (i := 5) (v := .pointer (some ⟨2, 3, none⟩)) rfl (by kernel_rfl) (fun _ _ _ h => h) (by rfl) ?_ (by assumption) ?_
  ·intro w' hSw
   first | (go_simp; done) | rfl | kernel_rfl
  try simp only [Act.put, getElem_toArray, getElem_cons_succ, getElem_cons_zero, setIfInBounds_toArray, set_cons_zero, set_cons_succ]
  refine tk (i := 6) (v := .string (signW 3)) rfl (by kernel_rfl) (fun _ _ _ h => h) (by rfl) ?_ (by assumption) ?_
  ·intro w' hSw
   have sg := HSG.out w' hSw.2 3 (by omega) (by omega)
   first | (go_simp; done) | (simpa using sg) | rfl
  try simp only [Act.put, getElem_toArray, getElem_cons_succ, getElem_cons_zero, setIfInBounds_toArray, set_cons_zero, set_cons_succ]
  refine wpAnyH_ready (rs := [7]) (by kernel_rfl) (by simp) ?_
  refine AllReadyH.cons rfl (fun K hK => ?_) AllReadyH.nil
  have HK2 := Lib.hid hK
  clear hK
  try rw [if_pos (by rfl)]
  go_simp
  refine (Hp0.out y0 HI0.out).mono ?_
  rintro e w1 ⟨rfl, h0⟩
  have HS1 := Lib.hid h0
  clear h0
  refine HK2.out _ _ ⟨HS1.out.2.2, HL.out _ _ HS1.out⟩ (fun hHeld => ?_)
  clear HK2
  try simp only [Act.put, getElem_toArray, getElem_cons_succ, getElem_cons_zero, setIfInBounds_toArray, set_cons_zero, set_cons_succ]
  clear K
  refine wpAnyH_done (by kernel_rfl) ?_ _
  clear hHeld
  go_wp2_with (fail)
  go_end0
  exact HS1.out.end_.cast ES.out
 ·rw [hop] at Hp0 ES
  have hini : St N w w.heap.size O ss W0.drew := HS0.out.drew
  refine wp_region_held_drew (S := fun (V : World) => V.heap[w.heap.size]? = some O ∧ Below w0.heap.size w0 V) (by kernel_rfl) ⟨hini.2.2, HL.out _ _ hini⟩ (fun hHeld => ?_)
  have HI0 := Lib.hid hini
  clear hini
  generalize W0.drew = y0 at *
  refine tk (i := 0) (v := .pointer (some ⟨N, 0, none⟩)) rfl (by kernel_rfl) (fun _ _ _ h => h) (by rfl) ?_ (by assumption) ?_
  ·intro w' hSw
   first | (go_simp; done) | rfl
  refine tk (i := 1) (v := .agg #[.int .u8 h.h.k, .int .u8 h.h.op, .int .i64 h.h.pl, .int .i64 h.h.n, .string h.h.name, .string h.h.arg, .string h.h.exn, .int .i64 h.rho, .slice v.ra h.rhos.length v.rc, .slice v.ea h.e.length v.ec, .int .u8 h.ty.h.k, .int .i64 h.ty.h.r, .slice v.tea h.ty.h.e.length v.tec, .slice v.tka h.ty.ks.length v.tkc, .int .u8 h.re.h.k, .int .i64 h.re.h.r, .slice v.sea h.re.h.e.length v.sec, .slice v.ska h.re.ks.length v.skc, .slice v.ka 2 v.kc]) rfl (by kernel_rfl) (fun _ _ _ h => h) (by rfl) ?_ (by assumption) ?_
  ·intro w' hSw
   exact exec_at _ rfl w.heap.size 0 rfl (HX.out.rng hSw.1)
  try simp only [Act.put, getElem_toArray, getElem_cons_succ, getElem_cons_zero, setIfInBounds_toArray, set_cons_zero, set_cons_succ]
  refine tk (i := 2) (v := .pointer (some ⟨w.heap.size, 0, none⟩)) rfl (by kernel_rfl) (fun _ _ _ h => h) (by rfl) ?_ (by assumption) ?_
  ·intro w' hSw
   first | (go_simp; done) | rfl
  refine tk (i := 3) (v := .pointer (some ⟨w.heap.size, 1, none⟩)) rfl (by kernel_rfl) (fun _ _ _ h => h) (by rfl) ?_ (by assumption) ?_
  ·intro w' hSw
   first | (go_simp; done) | rfl
  try simp only [Act.put, getElem_toArray, getElem_cons_succ, getElem_cons_zero, setIfInBounds_toArray, set_cons_zero, set_cons_succ]
  refine tk (i := 4) (v := .int .u8 4) rfl (by kernel_rfl) (fun _ _ _ h => h) (by rfl) ?_ (by assumption) ?_
  ·intro w' hSw
   obtain ⟨-, b1, -, -, -, -, -, -, -, -, -, -, -, -, -, -, -, -, -⟩ := HX.out.box w' hSw.1
   rw [hop] at b1
   first | (go_simp; done) | rfl
  refine tk (i := 5) (v := .pointer (some ⟨2, 4, none⟩)) rfl (by kernel_rfl) (fun _ _ _ h => h) (by rfl) ?_ (by assumption) ?_
  ·intro w' hSw
   first | (go_simp; done) | rfl | kernel_rfl
  try simp only [Act.put, getElem_toArray, getElem_cons_succ, getElem_cons_zero, setIfInBounds_toArray, set_cons_zero, set_cons_succ]
  refine tk (i := 6) (v := .string (signW 4)) rfl (by kernel_rfl) (fun _ _ _ h => h) (by rfl) ?_ (by assumption) ?_
  ·intro w' hSw
   have sg := HSG.out w' hSw.2 4 (by omega) (by omega)
   first | (go_simp; done) | (simpa using sg) | rfl
  try simp only [Act.put, getElem_toArray, getElem_cons_succ, getElem_cons_zero, setIfInBounds_toArray, set_cons_zero, set_cons_succ]
  refine wpAnyH_ready (rs := [7]) (by kernel_rfl) (by simp) ?_
  refine AllReadyH.cons rfl (fun K hK => ?_) AllReadyH.nil
  have HK2 := Lib.hid hK
  clear hK
  try rw [if_pos (by rfl)]
  go_simp
  refine (Hp0.out y0 HI0.out).mono ?_
  rintro e w1 ⟨rfl, h0⟩
  have HS1 := Lib.hid h0
  clear h0
  refine HK2.out _ _ ⟨HS1.out.2.2, HL.out _ _ HS1.out⟩ (fun hHeld => ?_)
  clear HK2
  try simp only [Act.put, getElem_toArray, getElem_cons_succ, getElem_cons_zero, setIfInBounds_toArray, set_cons_zero, set_cons_succ]
  clear K
  refine wpAnyH_done (by kernel_rfl) ?_ _
  clear hHeld
  go_wp2_with (fail)
  go_end0
  exact HS1.out.end_.cast ES.out
 ·rw [hop] at Hp0 ES
  have hini : St N w w.heap.size O ss W0.drew := HS0.out.drew
  refine wp_region_held_drew (S := fun (V : World) => V.heap[w.heap.size]? = some O ∧ Below w0.heap.size w0 V) (by kernel_rfl) ⟨hini.2.2, HL.out _ _ hini⟩ (fun hHeld => ?_)
  have HI0 := Lib.hid hini
  clear hini
  generalize W0.drew = y0 at *
  refine tk (i := 0) (v := .pointer (some ⟨N, 0, none⟩)) rfl (by kernel_rfl) (fun _ _ _ h => h) (by rfl) ?_ (by assumption) ?_
  ·intro w' hSw
   first | (go_simp; done) | rfl
  refine tk (i := 1) (v := .agg #[.int .u8 h.h.k, .int .u8 h.h.op, .int .i64 h.h.pl, .int .i64 h.h.n, .string h.h.name, .string h.h.arg, .string h.h.exn, .int .i64 h.rho, .slice v.ra h.rhos.length v.rc, .slice v.ea h.e.length v.ec, .int .u8 h.ty.h.k, .int .i64 h.ty.h.r, .slice v.tea h.ty.h.e.length v.tec, .slice v.tka h.ty.ks.length v.tkc, .int .u8 h.re.h.k, .int .i64 h.re.h.r, .slice v.sea h.re.h.e.length v.sec, .slice v.ska h.re.ks.length v.skc, .slice v.ka 2 v.kc]) rfl (by kernel_rfl) (fun _ _ _ h => h) (by rfl) ?_ (by assumption) ?_
  ·intro w' hSw
   exact exec_at _ rfl w.heap.size 0 rfl (HX.out.rng hSw.1)
  try simp only [Act.put, getElem_toArray, getElem_cons_succ, getElem_cons_zero, setIfInBounds_toArray, set_cons_zero, set_cons_succ]
  refine tk (i := 2) (v := .pointer (some ⟨w.heap.size, 0, none⟩)) rfl (by kernel_rfl) (fun _ _ _ h => h) (by rfl) ?_ (by assumption) ?_
  ·intro w' hSw
   first | (go_simp; done) | rfl
  refine tk (i := 3) (v := .pointer (some ⟨w.heap.size, 1, none⟩)) rfl (by kernel_rfl) (fun _ _ _ h => h) (by rfl) ?_ (by assumption) ?_
  ·intro w' hSw
   first | (go_simp; done) | rfl
  try simp only [Act.put, getElem_toArray, getElem_cons_succ, getElem_cons_zero, setIfInBounds_toArray, set_cons_zero, set_cons_succ]
  refine tk (i := 4) (v := .int .u8 5) rfl (by kernel_rfl) (fun _ _ _ h => h) (by rfl) ?_ (by assumption) ?_
  ·intro w' hSw
   obtain ⟨-, b1, -, -, -, -, -, -, -, -, -, -, -, -, -, -, -, -, -⟩ := HX.out.box w' hSw.1
   rw [hop] at b1
   first | (go_simp; done) | rfl
  refine tk (i := 5) (v := .pointer (some ⟨2, 5, none⟩)) rfl (by kernel_rfl) (fun _ _ _ h => h) (by rfl) ?_ (by assumption) ?_
  ·intro w' hSw
   first | (go_simp; done) | rfl | kernel_rfl
  try simp only [Act.put, getElem_toArray, getElem_cons_succ, getElem_cons_zero, setIfInBounds_toArray, set_cons_zero, set_cons_succ]
  refine tk (i := 6) (v := .string (signW 5)) rfl (by kernel_rfl) (fun _ _ _ h => h) (by rfl) ?_ (by assumption) ?_
  ·intro w' hSw
   have sg := HSG.out w' hSw.2 5 (by omega) (by omega)
   first | (go_simp; done) | (simpa using sg) | rfl
  try simp only [Act.put, getElem_toArray, getElem_cons_succ, getElem_cons_zero, setIfInBounds_toArray, set_cons_zero, set_cons_succ]
  refine wpAnyH_ready (rs := [7]) (by kernel_rfl) (by simp) ?_
  refine AllReadyH.cons rfl (fun K hK => ?_) AllReadyH.nil
  have HK2 := Lib.hid hK
  clear hK
  try rw [if_pos (by rfl)]
  go_simp
  refine (Hp0.out y0 HI0.out).mono ?_
  rintro e w1 ⟨rfl, h0⟩
  have HS1 := Lib.hid h0
  clear h0
  refine HK2.out _ _ ⟨HS1.out.2.2, HL.out _ _ HS1.out⟩ (fun hHeld => ?_)
  clear HK2
  try simp only [Act.put, getElem_toArray, getElem_cons_succ, getElem_cons_zero, setIfInBounds_toArray, set_cons_zero, set_cons_succ]
  clear K
  refine wpAnyH_done (by kernel_rfl) ?_ _
  clear hHeld
  go_wp2_with (fail)
  go_end0
  exact HS1.out.end_.cast ES.out
end Disp
end Go.Proofs.YtkfkpjngiffamaaGreatDoor
namespace Go.Proofs.YtkfkpjngiffamaaGreatDoor
open Go.RowKit
set_option linter.unusedVariables false
set_option linter.unusedSimpArgs false
namespace Disp
open Effect (At AtOk AtsAt Rd RdI ofA ret_i64 ret_bool lt_of_block heap_alloc_new own_slice digs NumLaid textE)
open Aterm (AT Hd V AtIs HdIs Kids acells tget wt wts nodeB allT allK smallB Box box_of at_load exec_at range_below of_world atInfo)
open Rt (box_new below_then kw wAt wBang)
open Types (jb wInt wOpen wShut wStar wRef wArrow)
set_option maxRecDepth 10000 in
set_option maxHeartbeats 3200000 in
theorem within_rest (w0 : World) (N m : Nat) (hN0 : w0.heap.size ≤ N) (hnl : NumLaid w0) (hsg : SgLaid w0) (hT : TermOf w0 N m) (t : AT) (h : Hd) (v : V) (l : Nat) (ss : List ByteArray) (w : World) (hm : wt t ≤ m + 1) (hok : allT nodeB t = true) (hsm : allT smallB t = true) (hI : AtIs w0 h v l t) (hb : Below w0.heap.size w0 w) (hW : WAt N ss w) (hz : ss.length + 80 * wt t ≤ 1000001) (hk : h.h.k = 11 ∨ h.h.k = 12 ∨ h.h.k = 13 ∨ h.h.k = 15 ∨ h.h.k = 16 ∨ h.h.k = 17 ∨ h.h.k = 18) :
  Calls Tryz.prog 48 #[.pointer (some ⟨N, 0, none⟩), .agg #[.int .u8 h.h.k, .int .u8 h.h.op, .int .i64 h.h.pl, .int .i64 h.h.n, .string h.h.name, .string h.h.arg, .string h.h.exn, .int .i64 h.rho, .slice v.ra h.rhos.length v.rc, .slice v.ea h.e.length v.ec, .int .u8 h.ty.h.k, .int .i64 h.ty.h.r, .slice v.tea h.ty.h.e.length v.tec, .slice v.tka h.ty.ks.length v.tkc, .int .u8 h.re.h.k, .int .i64 h.re.h.r, .slice v.sea h.re.h.e.length v.sec, .slice v.ska h.re.ks.length v.skc, .slice v.ka l v.kc]] w (WEnd N (ss ++ inW h (partsK t.ks)) w) := by
 obtain ⟨O, hx, hst⟩ := st_start h v l hW
 have hNl := hW.lt
 have hn : ∀ W, St N w w.heap.size O ss W → Calls Tryz.prog 70 #[.pointer (some ⟨N, 0, none⟩), .agg #[.int .u8 h.h.k, .int .u8 h.h.op, .int .i64 h.h.pl, .int .i64 h.h.n, .string h.h.name, .string h.h.arg, .string h.h.exn, .int .i64 h.rho, .slice v.ra h.rhos.length v.rc, .slice v.ea h.e.length v.ec, .int .u8 h.ty.h.k, .int .i64 h.ty.h.r, .slice v.tea h.ty.h.e.length v.tec, .slice v.tka h.ty.ks.length v.tkc, .int .u8 h.re.h.k, .int .i64 h.re.h.r, .slice v.sea h.re.h.e.length v.sec, .slice v.ska h.re.ks.length v.skc, .slice v.ka l v.kc]] W (WEnd N (ss ++ inW h (partsK t.ks)) W) := fun W hS => by
  have hb2 := hS.low hb hN0
  rcases hk with hk | hk | hk | hk | hk | hk | hk
  ·exact names_11 w0 N m hN0 hnl hT t h v l ss W hm hok hsm hI hb2 hS.1 hz hk
  ·exact names_12 w0 N m hN0 hnl hT t h v l ss W hm hok hsm hI hb2 hS.1 hz hk
  ·exact names_13 w0 N m hN0 hnl hT t h v l ss W hm hok hsm hI hb2 hS.1 hz hk
  ·exact names_15 w0 N m hN0 hnl hT t h v l ss W hm hok hsm hI hb2 hS.1 hz hk
  ·exact names_16 w0 N m hN0 hnl hT t h v l ss W hm hok hsm hI hb2 hS.1 hz hk
  ·exact names_17 w0 N m hN0 hnl hT t h v l ss W hm hok hsm hI hb2 hS.1 hz hk
  ·exact names_18 w0 N m hN0 hnl hT t h v l ss W hm hok hsm hI hb2 hS.1 hz hk
 have q3 : (h.h.k == 3) = false := by rw [beq_eq_false_iff_ne]; omega
 have q4 : (h.h.k == 4) = false := by rw [beq_eq_false_iff_ne]; omega
 have q5 : (h.h.k == 5) = false := by rw [beq_eq_false_iff_ne]; omega
 have q6 : (h.h.k == 6) = false := by rw [beq_eq_false_iff_ne]; omega
 have q7 : (h.h.k == 7) = false := by rw [beq_eq_false_iff_ne]; omega
 have q8 : (h.h.k == 8) = false := by rw [beq_eq_false_iff_ne]; omega
 have q9 : (h.h.k == 9) = false := by rw [beq_eq_false_iff_ne]; omega
 have q10 : (h.h.k == 10) = false := by rw [beq_eq_false_iff_ne]; omega
 have q14 : (h.h.k == 14) = false := by rw [beq_eq_false_iff_ne]; omega
 have HNM := Lib.hid hn; have HX := Lib.hid hx; have HN := Lib.hid hNl
 clear hn hx hNl hW hz hm hok hsm hI hb hN0 hT hnl hsg hk
 go_enter Tryz.func48, Tryz.ntmps48
 go_upto_region 1 with (fail)
 refine of_world (F := fun V => St N w w.heap.size O ss V) hst ?_
 intro W0 hst0
 have HS0 := Lib.hid hst0
 clear hst hst0
 obtain ⟨b0, -, -, -, -, -, -, -, -, -, -, -, -, -, -, -, -, -, -⟩ := HX.out.box W0 HS0.out.2.2
 have HRG := Lib.hid (HX.out.rng HS0.out.2.2)
 go_wp2_with (refine at_load rfl _ rfl w.heap.size 0 rfl HRG.out ?_)
 refine (HNM.out W0 HS0.out).mono ?_
 rintro e w1 ⟨rfl, hA, hW⟩
 have HE := Lib.hid (HS0.out.next HX.out HN.out hA hW).end_
 clear hA hW b0 HRG
 go_wp2_with (fail)
 go_end0
 exact HE.out
theorem within_all (w0 : World) (N m : Nat) (hN0 : w0.heap.size ≤ N) (hnl : NumLaid w0) (hsg : SgLaid w0) (hT : TermOf w0 N m) (t : AT) (h : Hd) (v : V) (l : Nat) (ss : List ByteArray) (w : World) (hm : wt t ≤ m + 1) (hok : allT nodeB t = true) (hsm : allT smallB t = true) (hI : AtIs w0 h v l t) (hb : Below w0.heap.size w0 w) (hW : WAt N ss w) (hz : ss.length + 80 * wt t ≤ 1000001) (hk : h.h.k ≠ 1 ∧ h.h.k ≠ 2) :
  Calls Tryz.prog 48 #[.pointer (some ⟨N, 0, none⟩), .agg #[.int .u8 h.h.k, .int .u8 h.h.op, .int .i64 h.h.pl, .int .i64 h.h.n, .string h.h.name, .string h.h.arg, .string h.h.exn, .int .i64 h.rho, .slice v.ra h.rhos.length v.rc, .slice v.ea h.e.length v.ec, .int .u8 h.ty.h.k, .int .i64 h.ty.h.r, .slice v.tea h.ty.h.e.length v.tec, .slice v.tka h.ty.ks.length v.tkc, .int .u8 h.re.h.k, .int .i64 h.re.h.r, .slice v.sea h.re.h.e.length v.sec, .slice v.ska h.re.ks.length v.skc, .slice v.ka l v.kc]] w (WEnd N (ss ++ inW h (partsK t.ks)) w) := by
 have hkk := kinds hok
 rw [hI.head] at hkk
 have hh : h.h.k = 3 ∨ h.h.k = 4 ∨ h.h.k = 5 ∨ h.h.k = 6 ∨ h.h.k = 7 ∨ h.h.k = 8 ∨ h.h.k = 9 ∨ h.h.k = 10 ∨ h.h.k = 14 ∨ (h.h.k = 11 ∨ h.h.k = 12 ∨ h.h.k = 13 ∨ h.h.k = 15 ∨ h.h.k = 16 ∨ h.h.k = 17 ∨ h.h.k = 18) := by omega
 rcases hh with k | k | k | k | k | k | k | k | k | k
 ·exact within_3 w0 N m hN0 hnl hT t h v l ss w hm hok hsm hI hb hW hz k
 ·exact within_4 w0 N m hN0 hnl hT t h v l ss w hm hok hsm hI hb hW hz k
 ·exact within_5 w0 N m hN0 hnl hT t h v l ss w hm hok hsm hI hb hW hz k
 ·exact within_6 w0 N m hN0 hnl hT t h v l ss w hm hok hsm hI hb hW hz k
 ·exact within_7 w0 N m hN0 hnl hT t h v l ss w hm hok hsm hI hb hW hz k
 ·exact within_8 w0 N m hN0 hnl hT t h v l ss w hm hok hsm hI hb hW hz k
 ·exact within_9 w0 N m hN0 hnl hT hsg t h v l ss w hm hok hsm hI hb hW hz k
 ·exact within_10 w0 N m hN0 hnl hT t h v l ss w hm hok hsm hI hb hW hz k
 ·exact within_14 w0 N m hN0 hnl hT t h v l ss w hm hok hsm hI hb hW hz k
 ·exact within_rest w0 N m hN0 hnl hsg hT t h v l ss w hm hok hsm hI hb hW hz k
set_option maxRecDepth 10000 in
set_option maxHeartbeats 3200000 in
theorem term_1 (w0 : World) (N m : Nat) (hN0 : w0.heap.size ≤ N) (hnl : NumLaid w0) (hsg : SgLaid w0) (hT : TermOf w0 N m) (t : AT) (h : Hd) (v : V) (l : Nat) (ss : List ByteArray) (w : World) (hm : wt t ≤ m + 1) (hok : allT nodeB t = true) (hsm : allT smallB t = true) (hI : AtIs w0 h v l t) (hb : Below w0.heap.size w0 w) (hW : WAt N ss w) (hz : ss.length + 80 * wt t ≤ 1000000) (hk : h.h.k = 1) :
  Calls Tryz.prog 27 #[.pointer (some ⟨N, 0, none⟩), .agg #[.int .u8 h.h.k, .int .u8 h.h.op, .int .i64 h.h.pl, .int .i64 h.h.n, .string h.h.name, .string h.h.arg, .string h.h.exn, .int .i64 h.rho, .slice v.ra h.rhos.length v.rc, .slice v.ea h.e.length v.ec, .int .u8 h.ty.h.k, .int .i64 h.ty.h.r, .slice v.tea h.ty.h.e.length v.tec, .slice v.tka h.ty.ks.length v.tkc, .int .u8 h.re.h.k, .int .i64 h.re.h.r, .slice v.sea h.re.h.e.length v.sec, .slice v.ska h.re.ks.length v.skc, .slice v.ka l v.kc]] w (WEnd N (ss ++ partsT t) w) := by
 obtain ⟨O, hx, hst⟩ := st_start h v l hW
 have hNl := hW.lt
 have hwp := Aterm.wt_pos t
 have es : ss ++ [digs h.h.n] = ss ++ partsT t := by rw [partsT_eq, hI.head]; unfold comb; rw [if_pos hk]
 have hd := fun W (hS : St N w w.heap.size O ss W) => Effect.digitsOf_walk h.h.n hI.ok.hd.n.1 hI.ok.hd.n.2 W (hnl.below (hS.low hb hN0))
 have hp := fun W M hM hSt => put_n (w := w) hx hNl [digs h.h.n] W M 1 ss hM rfl hSt (by omega)
 have q1 : (h.h.k == 1) = true := by rw [hk]; rfl
 have HD := Lib.hid hd; have HP := Lib.hid hp; have HX := Lib.hid hx; have ES := Lib.hid es
 clear hd hp hx es hNl hW hz hm hok hsm hI hb hN0 hT hnl hsg hk hwp
 go_enter Tryz.func27, Tryz.ntmps27
 go_upto_region 1 with (fail)
 refine of_world (F := fun V => St N w w.heap.size O ss V) hst ?_
 intro W0 hst0
 have HS0 := Lib.hid hst0
 clear hst hst0
 obtain ⟨b0, -, -, b3, -, -, -, -, -, -, -, -, -, -, -, -, -, -, -⟩ := HX.out.box W0 HS0.out.2.2
 go_wp2_with (fail)
 refine (HD.out W0 HS0.out).mono ?_
 rintro e w1 ⟨rfl, g⟩
 have HU := Lib.hid (HS0.out.quiet g)
 clear g b0 b3
 go_wp2_with (fail)
 refine (HP.out w1 _ rfl HU.out).mono ?_
 rintro e w2 ⟨rfl, h2⟩
 have HE := Lib.hid h2.end_
 clear h2
 go_wp2_with (fail)
 go_end0
 exact HE.out.cast ES.out
set_option maxRecDepth 10000 in
set_option maxHeartbeats 3200000 in
theorem term_2 (w0 : World) (N m : Nat) (hN0 : w0.heap.size ≤ N) (hnl : NumLaid w0) (hsg : SgLaid w0) (hT : TermOf w0 N m) (t : AT) (h : Hd) (v : V) (l : Nat) (ss : List ByteArray) (w : World) (hm : wt t ≤ m + 1) (hok : allT nodeB t = true) (hsm : allT smallB t = true) (hI : AtIs w0 h v l t) (hb : Below w0.heap.size w0 w) (hW : WAt N ss w) (hz : ss.length + 80 * wt t ≤ 1000000) (hk : h.h.k = 2) :
  Calls Tryz.prog 27 #[.pointer (some ⟨N, 0, none⟩), .agg #[.int .u8 h.h.k, .int .u8 h.h.op, .int .i64 h.h.pl, .int .i64 h.h.n, .string h.h.name, .string h.h.arg, .string h.h.exn, .int .i64 h.rho, .slice v.ra h.rhos.length v.rc, .slice v.ea h.e.length v.ec, .int .u8 h.ty.h.k, .int .i64 h.ty.h.r, .slice v.tea h.ty.h.e.length v.tec, .slice v.tka h.ty.ks.length v.tkc, .int .u8 h.re.h.k, .int .i64 h.re.h.r, .slice v.sea h.re.h.e.length v.sec, .slice v.ska h.re.ks.length v.skc, .slice v.ka l v.kc]] w (WEnd N (ss ++ partsT t) w) := by
 obtain ⟨O, hx, hst⟩ := st_start h v l hW
 have hNl := hW.lt
 have hwp := Aterm.wt_pos t
 have es : ss ++ [h.h.name] = ss ++ partsT t := by rw [partsT_eq, hI.head]; unfold comb; rw [if_neg (by omega), if_pos hk]
 have hp := fun W M hM hSt => put_n (w := w) hx hNl [h.h.name] W M 1 ss hM rfl hSt (by omega)
 have q1 : (h.h.k == 1) = false := by rw [hk]; rfl
 have q2 : (h.h.k == 2) = true := by rw [hk]; rfl
 have HP := Lib.hid hp; have HX := Lib.hid hx; have ES := Lib.hid es
 clear hp hx es hNl hW hz hm hok hsm hI hb hN0 hT hnl hsg hk hwp
 go_enter Tryz.func27, Tryz.ntmps27
 go_upto_region 1 with (fail)
 refine of_world (F := fun V => St N w w.heap.size O ss V) hst ?_
 intro W0 hst0
 have HS0 := Lib.hid hst0
 clear hst hst0
 obtain ⟨b0, -, -, -, b4, -, -, -, -, -, -, -, -, -, -, -, -, -, -⟩ := HX.out.box W0 HS0.out.2.2
 go_wp2_with (fail)
 refine (HP.out W0 _ rfl HS0.out).mono ?_
 rintro e w2 ⟨rfl, h2⟩
 have HE := Lib.hid h2.end_
 clear h2 b0 b4
 go_wp2_with (fail)
 go_end0
 exact HE.out.cast ES.out
set_option maxRecDepth 10000 in
set_option maxHeartbeats 3200000 in
theorem term_3 (w0 : World) (N m : Nat) (hN0 : w0.heap.size ≤ N) (hnl : NumLaid w0) (hsg : SgLaid w0) (hT : TermOf w0 N m) (t : AT) (h : Hd) (v : V) (l : Nat) (ss : List ByteArray) (w : World) (hm : wt t ≤ m + 1) (hok : allT nodeB t = true) (hsm : allT smallB t = true) (hI : AtIs w0 h v l t) (hb : Below w0.heap.size w0 w) (hW : WAt N ss w) (hz : ss.length + 80 * wt t ≤ 1000000) (hk : h.h.k ≠ 1 ∧ h.h.k ≠ 2) :
  Calls Tryz.prog 27 #[.pointer (some ⟨N, 0, none⟩), .agg #[.int .u8 h.h.k, .int .u8 h.h.op, .int .i64 h.h.pl, .int .i64 h.h.n, .string h.h.name, .string h.h.arg, .string h.h.exn, .int .i64 h.rho, .slice v.ra h.rhos.length v.rc, .slice v.ea h.e.length v.ec, .int .u8 h.ty.h.k, .int .i64 h.ty.h.r, .slice v.tea h.ty.h.e.length v.tec, .slice v.tka h.ty.ks.length v.tkc, .int .u8 h.re.h.k, .int .i64 h.re.h.r, .slice v.sea h.re.h.e.length v.sec, .slice v.ska h.re.ks.length v.skc, .slice v.ka l v.kc]] w (WEnd N (ss ++ partsT t) w) := by
 obtain ⟨O, hx, hst⟩ := st_start h v l hW
 have hNl := hW.lt
 have hwp := Aterm.wt_pos t
 have hle := parts_le hok hsm
 have ep : partsT t = [wOpen] ++ (inW h (partsK t.ks) ++ [wShut]) := by rw [partsT_eq, hI.head]; unfold comb; rw [if_neg hk.1, if_neg hk.2]
 have hlen : (inW h (partsK t.ks)).length + 2 ≤ 80 * wt t := by
  rw [ep] at hle
  simp only [List.length_append, List.length_cons, List.length_nil] at hle
  omega
 have es : ss ++ [wOpen] ++ inW h (partsK t.ks) ++ [wShut] = ss ++ partsT t := by rw [ep]; simp
 have hp := fun W M hM hSt => put_n (w := w) hx hNl [wOpen] W M 1 ss hM rfl hSt (by omega)
 have hp2 := fun W M hM hSt => put_n (w := w) hx hNl [wShut] W M 1 (ss ++ [wOpen] ++ inW h (partsK t.ks)) hM rfl hSt (by simp only [List.length_append, List.length_cons, List.length_nil]; omega)
 have hw := fun W (hS : St N w w.heap.size O (ss ++ [wOpen]) W) => within_all w0 N m hN0 hnl hsg hT t h v l (ss ++ [wOpen]) W hm hok hsm hI (hS.low hb hN0) hS.1 (by simp only [List.length_append, List.length_cons, List.length_nil]; omega) hk
 have q1 : (h.h.k == 1) = false := by rw [beq_eq_false_iff_ne]; exact hk.1
 have q2 : (h.h.k == 2) = false := by rw [beq_eq_false_iff_ne]; exact hk.2
 have HP := Lib.hid hp; have HP2 := Lib.hid hp2; have HX := Lib.hid hx; have ES := Lib.hid es; have HWI := Lib.hid hw; have HN := Lib.hid hNl
 clear hp hp2 hx es hw hNl hW hz hm hok hsm hI hb hN0 hT hnl hsg hk hwp hle ep hlen
 go_enter Tryz.func27, Tryz.ntmps27
 go_upto_region 1 with (fail)
 refine of_world (F := fun V => St N w w.heap.size O ss V) hst ?_
 intro W0 hst0
 have HS0 := Lib.hid hst0
 clear hst hst0
 obtain ⟨b0, -, -, -, -, -, -, -, -, -, -, -, -, -, -, -, -, -, -⟩ := HX.out.box W0 HS0.out.2.2
 go_wp2_with (fail)
 refine (HP.out W0 _ rfl HS0.out).mono ?_
 rintro e w1 ⟨rfl, h1⟩
 have HS1 := Lib.hid h1
 clear h1 b0
 have HRG := Lib.hid (HX.out.rng HS1.out.2.2)
 go_wp2_with (refine at_load rfl _ rfl w.heap.size 0 rfl HRG.out ?_)
 refine (HWI.out w1 HS1.out).mono ?_
 rintro e w2 ⟨rfl, hA, hW⟩
 have HS2 := Lib.hid (HS1.out.next HX.out HN.out hA hW)
 clear hA hW HRG
 go_wp2_with (fail)
 refine (HP2.out w2 _ rfl HS2.out).mono ?_
 rintro e w3 ⟨rfl, h2⟩
 have HE := Lib.hid h2.end_
 clear h2
 go_wp2_with (fail)
 go_end0
 exact HE.out.cast ES.out
theorem term_all (w0 : World) (N : Nat) (hN : w0.heap.size ≤ N) (hnl : NumLaid w0) (hsg : SgLaid w0) : ∀ m, TermOf w0 N m := by
 intro m
 induction m with
 | zero =>
  intro t h v l ss w hm
  have := Aterm.wt_pos t
  omega
 | succ m ih =>
  intro t h v l ss w hm hok hsm hI hb hW hz
  by_cases h1 : h.h.k = 1
  ·exact term_1 w0 N m hN hnl hsg ih t h v l ss w hm hok hsm hI hb hW hz h1
  ·by_cases h2 : h.h.k = 2
   ·exact term_2 w0 N m hN hnl hsg ih t h v l ss w hm hok hsm hI hb hW hz h2
   ·exact term_3 w0 N m hN hnl hsg ih t h v l ss w hm hok hsm hI hb hW hz ⟨h1, h2⟩
end Disp
end Go.Proofs.YtkfkpjngiffamaaGreatDoor
