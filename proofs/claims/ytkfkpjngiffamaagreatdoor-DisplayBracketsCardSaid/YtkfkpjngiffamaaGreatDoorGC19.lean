import Derived.Test.YtkfkpjngiffamaaGreatDoorGC08
import Derived.Test.YtkfkpjngiffamaaGreatDoorGC16
import Derived.Test.YtkfkpjngiffamaaGreatDoorGC17
namespace Go.Proofs.YtkfkpjngiffamaaGreatDoor
open Go.RowKit
open List (getElem_toArray getElem_cons_succ getElem_cons_zero setIfInBounds_toArray set_cons_zero set_cons_succ)
set_option linter.unusedVariables false
set_option linter.unusedSimpArgs false
namespace Disp
open Effect (At AtOk AtsAt Rd RdI ofA ret_i64 ret_bool lt_of_block heap_alloc_new own_slice digs NumLaid textE)
open Aterm (AT Hd V AtIs HdIs Kids acells tget wt wts nodeB allT allK smallB Box box_of at_load exec_at range_below of_world atInfo)
open Rt (box_new below_then kw wAt wBang)
open Types (jb wInt wOpen wShut wStar wRef wArrow)
set_option maxRecDepth 10000 in
set_option maxHeartbeats 6400000 in
theorem names_12 (w0 : World) (N m : Nat) (hN0 : w0.heap.size ≤ N) (hnl : NumLaid w0) (hT : TermOf w0 N m) (t : AT) (h : Hd) (v : V) (l : Nat) (ss : List ByteArray) (w : World) (hm : wt t ≤ m + 1) (hok : allT nodeB t = true) (hsm : allT smallB t = true) (hI : AtIs w0 h v l t) (hb : Below w0.heap.size w0 w) (hW : WAt N ss w) (hz : ss.length + 80 * wt t ≤ 1000001) (hk : h.h.k = 12) :
  Calls Tryz.prog 70 #[.pointer (some ⟨N, 0, none⟩), .agg #[.int .u8 h.h.k, .int .u8 h.h.op, .int .i64 h.h.pl, .int .i64 h.h.n, .string h.h.name, .string h.h.arg, .string h.h.exn, .int .i64 h.rho, .slice v.ra h.rhos.length v.rc, .slice v.ea h.e.length v.ec, .int .u8 h.ty.h.k, .int .i64 h.ty.h.r, .slice v.tea h.ty.h.e.length v.tec, .slice v.tka h.ty.ks.length v.tkc, .int .u8 h.re.h.k, .int .i64 h.re.h.r, .slice v.sea h.re.h.e.length v.sec, .slice v.ska h.re.ks.length v.skc, .slice v.ka l v.kc]] w (WEnd N (ss ++ inW h (partsK t.ks)) w) := by
 have hNl := hW.lt
 have hlen := hI.len
 have hkk := kinds hok
 rw [hI.head] at hkk
 obtain rfl : l = 2 := by omega
 have hcap := hI.cap
 have hww := wt2 hlen
 obtain ⟨b, o, hka, hkd⟩ := kid_at hI (by omega)
 have ok0 := kid_all hok (i := 0) (by omega)
 have sm0 := kid_all hsm (i := 0) (by omega)
 have wl0 := parts_le ok0 sm0
 have kg0 := kw_get (show 0 < t.ks.length by omega)
 obtain ⟨kv0, hI0, hr0⟩ := hkd 0 (by omega)
 rw [show o + 0 * 19 = o from by omega] at hr0
 have ok1 := kid_all hok (i := 1) (by omega)
 have sm1 := kid_all hsm (i := 1) (by omega)
 have wl1 := parts_le ok1 sm1
 have kg1 := kw_get (show 1 < t.ks.length by omega)
 obtain ⟨kv1, hI1, hr1⟩ := hkd 1 (by omega)
 rw [show o + 1 * 19 = o + 19 from by omega] at hr1
 have hwp := Aterm.wt_pos t
 have hsh : smallB h (0 : Nat) = true := by
  have := top_all hsm
  rw [hI.head] at this
  exact this
 have hlg := Aterm.long_no (h := h) (by unfold smallB at hsh; simpa using hsh)
 have htm := ty_may (top_all hok)
 rw [hI.head] at htm
 have es : ss ++ ([wLet, h.h.name, wIs] ++ partsT (tget t.ks 0)) ++ ([wIn] ++ partsT (tget t.ks 1)) = ss ++ inW h (partsK t.ks) := by
  unfold inW
  simp [hk, kg0, kg1]
 obtain ⟨O, hx, hst⟩ := st_start h v 2 hW
 have p0 := kid_n w0 N m hN0 hT hb hx hNl (tget t.ks 0) kv0 (by omega) ok0 sm0 hI0 [wLet, h.h.name, wIs] 3 (ss) rfl (by (try simp only [List.length_append, List.length_cons, List.length_nil, atW]); omega)
 have p1 := kid_n w0 N m hN0 hT hb hx hNl (tget t.ks 1) kv1 (by omega) ok1 sm1 hI1 [wIn] 1 (ss ++ ([wLet, h.h.name, wIs] ++ partsT (tget t.ks 0))) rfl (by (try simp only [List.length_append, List.length_cons, List.length_nil, atW]); omega)
 have hlow := fun W ss' (hSt : St N w w.heap.size O ss' W) => hSt.low hb hN0
 have Hp0 := Lib.hid p0; have Hp1 := Lib.hid p1; have HL := Lib.hid hlow; have HX := Lib.hid hx; have HN := Lib.hid hNl; have ES := Lib.hid es; have HR0 := Lib.hid hr0; have HR1 := Lib.hid hr1; have HKA := Lib.hid hka
 have hcq := hcap.1
 have hcl : v.kc ≤ 9223372036854775807 := hcap.2
 have q11 : (h.h.k == 11) = false := by rw [hk]; rfl
 have q12 : (h.h.k == 12) = true := by rw [hk]; rfl
 have q13 : (h.h.k == 13) = false := by rw [hk]; rfl
 have q15 : (h.h.k == 15) = false := by rw [hk]; rfl
 have q16 : (h.h.k == 16) = false := by rw [hk]; rfl
 have q17 : (h.h.k == 17) = false := by rw [hk]; rfl
 have q18 : (h.h.k == 18) = false := by rw [hk]; rfl
 have hst2 := hst
 clear p0 p1 hlow hx hNl es hr0 hr1 hka hst hW hz hm hok hsm hI hb hN0 hT hnl hlen hkk hcap hwp hsh hlg htm hww hkd hI0 hI1 ok0 sm0 wl0 kg0 ok1 sm1 wl1 kg1
 clear hk
 go_enter Tryz.func70, Tryz.ntmps70
 go_upto_region 1 with (fail)
 refine of_world (F := fun V => St N w w.heap.size O ss V) hst2 ?_
 intro W0 hst0
 have HS0 := Lib.hid hst0
 clear hst2 hst0
 obtain ⟨b0, -, -, -, -, -, -, -, -, -, -, -, -, -, -, -, -, -, -⟩ := HX.out.box W0 HS0.out.2.2
 go_upto_region 6 with (fail)
 clear b0
 have hini : St N w w.heap.size O (ss) W0.drew := HS0.out.drew
 refine wp_region_held_drew (S := fun (V : World) => V.heap[w.heap.size]? = some O ∧ Below w0.heap.size w0 V) (by kernel_rfl) ⟨hini.2.2, HL.out _ _ hini⟩ (fun hHeld => ?_)
 have HI0 := Lib.hid hini
 clear hini
 generalize W0.drew = y0 at *
 refine tk (i := 0) (v := .pointer (some ⟨N, 0, none⟩)) rfl (by kernel_rfl) (fun _ _ _ h => h) (by rfl) ?_ (by assumption) ?_
 ·intro w' hSw
  first | (go_simp; done) | rfl
 refine tk (i := 1) (v := .pointer (some ⟨w.heap.size, 18, none⟩)) rfl (by kernel_rfl) (fun _ _ _ h => h) (by rfl) ?_ (by assumption) ?_
 ·intro w' hSw
  first | (go_simp; done) | rfl
 try simp only [Act.put, getElem_toArray, getElem_cons_succ, getElem_cons_zero, setIfInBounds_toArray, set_cons_zero, set_cons_succ]
 refine tk (i := 2) (v := .slice (some ⟨b, o, none⟩) 2 v.kc) rfl (by kernel_rfl) (fun _ _ _ h => h) (by rfl) ?_ (by assumption) ?_
 ·intro w' hSw
  obtain ⟨-, -, -, -, -, -, -, -, -, -, -, -, -, -, -, -, -, -, b18⟩ := HX.out.box w' hSw.1
  rw [HKA.out] at b18
  first | (go_simp; done) | rfl
 refine tk (i := 3) (v := .pointer (some ⟨b, o, none⟩)) rfl (by kernel_rfl) (fun _ _ _ h => h) (by rfl) ?_ (by assumption) ?_
 ·intro w' hSw
  first | (go_simp; done) | rfl
 try simp only [Act.put, getElem_toArray, getElem_cons_succ, getElem_cons_zero, setIfInBounds_toArray, set_cons_zero, set_cons_succ]
 refine tk (i := 4) (v := .agg #[.int .u8 (tget t.ks 0).h.h.k, .int .u8 (tget t.ks 0).h.h.op, .int .i64 (tget t.ks 0).h.h.pl, .int .i64 (tget t.ks 0).h.h.n, .string (tget t.ks 0).h.h.name, .string (tget t.ks 0).h.h.arg, .string (tget t.ks 0).h.h.exn, .int .i64 (tget t.ks 0).h.rho, .slice kv0.ra (tget t.ks 0).h.rhos.length kv0.rc, .slice kv0.ea (tget t.ks 0).h.e.length kv0.ec, .int .u8 (tget t.ks 0).h.ty.h.k, .int .i64 (tget t.ks 0).h.ty.h.r, .slice kv0.tea (tget t.ks 0).h.ty.h.e.length kv0.tec, .slice kv0.tka (tget t.ks 0).h.ty.ks.length kv0.tkc, .int .u8 (tget t.ks 0).h.re.h.k, .int .i64 (tget t.ks 0).h.re.h.r, .slice kv0.sea (tget t.ks 0).h.re.h.e.length kv0.sec, .slice kv0.ska (tget t.ks 0).h.re.ks.length kv0.skc, .slice kv0.ka (tget t.ks 0).ks.length kv0.kc]) rfl (by kernel_rfl) (fun _ _ _ h => h) (by rfl) ?_ (by assumption) ?_
 ·intro w' hSw
  exact exec_at _ rfl b (o) rfl (HR0.out w' hSw.2)
 refine tk (i := 5) (v := .pointer (some ⟨w.heap.size, 0, none⟩)) rfl (by kernel_rfl) (fun _ _ _ h => h) (by rfl) ?_ (by assumption) ?_
 ·intro w' hSw
  first | (go_simp; done) | rfl
 try simp only [Act.put, getElem_toArray, getElem_cons_succ, getElem_cons_zero, setIfInBounds_toArray, set_cons_zero, set_cons_succ]
 refine tk (i := 6) (v := .pointer (some ⟨w.heap.size, 4, none⟩)) rfl (by kernel_rfl) (fun _ _ _ h => h) (by rfl) ?_ (by assumption) ?_
 ·intro w' hSw
  first | (go_simp; done) | rfl
 refine tk (i := 7) (v := .string h.h.name) rfl (by kernel_rfl) (fun _ _ _ h => h) (by rfl) ?_ (by assumption) ?_
 ·intro w' hSw
  obtain ⟨-, -, -, -, b4, -, -, -, -, -, -, -, -, -, -, -, -, -, -⟩ := HX.out.box w' hSw.1
  first | (go_simp; done) | rfl
 try simp only [Act.put, getElem_toArray, getElem_cons_succ, getElem_cons_zero, setIfInBounds_toArray, set_cons_zero, set_cons_succ]
 refine wpAnyH_ready (rs := [8]) (by kernel_rfl) (by simp) ?_
 refine AllReadyH.cons rfl (fun K hK => ?_) AllReadyH.nil
 have HK2 := Lib.hid hK
 clear hK
 try rw [if_pos (by rfl)]
 go_simp
 refine HK2.out _ _ ⟨(HI0.out.alloc (.cells #[.string ⟨#[108, 101, 116]⟩, .string (h.h.name), .string ⟨#[61]⟩] 9)).2.2, HL.out _ _ (HI0.out.alloc _)⟩ (fun hHeld => ?_)
 clear HK2
 try simp only [Act.put, getElem_toArray, getElem_cons_succ, getElem_cons_zero, setIfInBounds_toArray, set_cons_zero, set_cons_succ]
 clear K
 refine wpAnyH_ready (rs := [9]) (by kernel_rfl) (by simp) ?_
 refine AllReadyH.cons rfl (fun K hK => ?_) AllReadyH.nil
 have HK2 := Lib.hid hK
 clear hK
 try rw [if_pos (by rfl)]
 go_simp
 refine (Hp0.out y0 _ rfl HI0.out).mono ?_
 rintro e w1 ⟨rfl, h0⟩
 have HS1 := Lib.hid h0
 clear h0
 refine HK2.out _ _ ⟨HS1.out.2.2, HL.out _ _ HS1.out⟩ (fun hHeld => ?_)
 clear HK2
 try simp only [Act.put, getElem_toArray, getElem_cons_succ, getElem_cons_zero, setIfInBounds_toArray, set_cons_zero, set_cons_succ]
 clear K
 refine wpAnyH_done (by kernel_rfl) ?_ _
 clear hHeld
 obtain ⟨-, -, -, -, -, -, -, -, -, -, -, -, -, -, -, -, -, -, b18⟩ := HX.out.box w1 HS1.out.2.2
 rw [HKA.out] at b18
 have HK := Lib.hid (HR1.out w1 (HL.out w1 _ HS1.out))
 go_wp2_with (refine at_load rfl _ rfl b (o + 19) rfl HK.out ?_)
 refine (Hp1.out w1 _ rfl HS1.out).mono ?_
 rintro e w2 ⟨rfl, h1⟩
 have HS2 := Lib.hid h1
 clear h1 b18 HK
 go_wp2_with (fail)
 go_end0
 exact HS2.out.end_.cast ES.out
set_option maxRecDepth 10000 in
set_option maxHeartbeats 6400000 in
theorem names_15 (w0 : World) (N m : Nat) (hN0 : w0.heap.size ≤ N) (hnl : NumLaid w0) (hT : TermOf w0 N m) (t : AT) (h : Hd) (v : V) (l : Nat) (ss : List ByteArray) (w : World) (hm : wt t ≤ m + 1) (hok : allT nodeB t = true) (hsm : allT smallB t = true) (hI : AtIs w0 h v l t) (hb : Below w0.heap.size w0 w) (hW : WAt N ss w) (hz : ss.length + 80 * wt t ≤ 1000001) (hk : h.h.k = 15) :
  Calls Tryz.prog 70 #[.pointer (some ⟨N, 0, none⟩), .agg #[.int .u8 h.h.k, .int .u8 h.h.op, .int .i64 h.h.pl, .int .i64 h.h.n, .string h.h.name, .string h.h.arg, .string h.h.exn, .int .i64 h.rho, .slice v.ra h.rhos.length v.rc, .slice v.ea h.e.length v.ec, .int .u8 h.ty.h.k, .int .i64 h.ty.h.r, .slice v.tea h.ty.h.e.length v.tec, .slice v.tka h.ty.ks.length v.tkc, .int .u8 h.re.h.k, .int .i64 h.re.h.r, .slice v.sea h.re.h.e.length v.sec, .slice v.ska h.re.ks.length v.skc, .slice v.ka l v.kc]] w (WEnd N (ss ++ inW h (partsK t.ks)) w) := by
 have hNl := hW.lt
 have hlen := hI.len
 have hkk := kinds hok
 rw [hI.head] at hkk
 obtain rfl : l = 1 := by omega
 have hcap := hI.cap
 have hww := wt1 hlen
 obtain ⟨b, o, hka, hkd⟩ := kid_at hI (by omega)
 have ok0 := kid_all hok (i := 0) (by omega)
 have sm0 := kid_all hsm (i := 0) (by omega)
 have wl0 := parts_le ok0 sm0
 have kg0 := kw_get (show 0 < t.ks.length by omega)
 obtain ⟨kv0, hI0, hr0⟩ := hkd 0 (by omega)
 rw [show o + 0 * 19 = o from by omega] at hr0
 have hwp := Aterm.wt_pos t
 have hsh : smallB h (0 : Nat) = true := by
  have := top_all hsm
  rw [hI.head] at this
  exact this
 have hlg := Aterm.long_no (h := h) (by unfold smallB at hsh; simpa using hsh)
 have htm := ty_may (top_all hok)
 rw [hI.head] at htm
 have es : ss ++ ([wRaise, h.h.exn] ++ partsT (tget t.ks 0)) ++ [wColon, tyT h.ty] = ss ++ inW h (partsK t.ks) := by
  unfold inW
  simp [hk, kg0]
 obtain ⟨O, hx, hst⟩ := st_start h v 1 hW
 have p0 := kid_n w0 N m hN0 hT hb hx hNl (tget t.ks 0) kv0 (by omega) ok0 sm0 hI0 [wRaise, h.h.exn] 2 (ss) rfl (by (try simp only [List.length_append, List.length_cons, List.length_nil, atW]); omega)
 have p1 := fun W M hM hSt => put_n (w := w) hx hNl [wColon, tyT h.ty] W M 2 (ss ++ ([wRaise, h.h.exn] ++ partsT (tget t.ks 0))) hM rfl hSt (by (try simp only [List.length_append, List.length_cons, List.length_nil, atW]); omega)
 have d1ty := fun W (hSt : St N w w.heap.size O (ss ++ ([wRaise, h.h.exn] ++ partsT (tget t.ks 0))) W) => typ_walk h.ty v.tea v.tec v.tka v.tkc W (hI.ok.ty.below (hSt.low hb hN0)) (htm.1 (by omega)) (Rt.small_eff hlg.2.2.1).1 (Rt.small_eff hlg.2.2.1).2 (hnl.below (hSt.low hb hN0))
 have hlow := fun W ss' (hSt : St N w w.heap.size O ss' W) => hSt.low hb hN0
 have Hp0 := Lib.hid p0; have Hp1 := Lib.hid p1; have Hd1ty := Lib.hid d1ty; have HL := Lib.hid hlow; have HX := Lib.hid hx; have HN := Lib.hid hNl; have ES := Lib.hid es; have HR0 := Lib.hid hr0; have HKA := Lib.hid hka
 have hcq := hcap.1
 have hcl : v.kc ≤ 9223372036854775807 := hcap.2
 have q11 : (h.h.k == 11) = false := by rw [hk]; rfl
 have q12 : (h.h.k == 12) = false := by rw [hk]; rfl
 have q13 : (h.h.k == 13) = false := by rw [hk]; rfl
 have q15 : (h.h.k == 15) = true := by rw [hk]; rfl
 have q16 : (h.h.k == 16) = false := by rw [hk]; rfl
 have q17 : (h.h.k == 17) = false := by rw [hk]; rfl
 have q18 : (h.h.k == 18) = false := by rw [hk]; rfl
 have hst2 := hst
 clear p0 p1 d1ty hlow hx hNl es hr0 hka hst hW hz hm hok hsm hI hb hN0 hT hnl hlen hkk hcap hwp hsh hlg htm hww hkd hI0 ok0 sm0 wl0 kg0
 clear hk
 go_enter Tryz.func70, Tryz.ntmps70
 go_upto_region 1 with (fail)
 refine of_world (F := fun V => St N w w.heap.size O ss V) hst2 ?_
 intro W0 hst0
 have HS0 := Lib.hid hst0
 clear hst2 hst0
 obtain ⟨b0, -, -, -, -, -, -, -, -, -, -, -, -, -, -, -, -, -, -⟩ := HX.out.box W0 HS0.out.2.2
 go_upto_region 15 with (fail)
 clear b0
 have hini : St N w w.heap.size O (ss) W0.drew := HS0.out.drew
 refine wp_region_held_drew (S := fun (V : World) => V.heap[w.heap.size]? = some O ∧ Below w0.heap.size w0 V) (by kernel_rfl) ⟨hini.2.2, HL.out _ _ hini⟩ (fun hHeld => ?_)
 have HI0 := Lib.hid hini
 clear hini
 generalize W0.drew = y0 at *
 refine tk (i := 0) (v := .pointer (some ⟨N, 0, none⟩)) rfl (by kernel_rfl) (fun _ _ _ h => h) (by rfl) ?_ (by assumption) ?_
 ·intro w' hSw
  first | (go_simp; done) | rfl
 refine tk (i := 1) (v := .pointer (some ⟨w.heap.size, 18, none⟩)) rfl (by kernel_rfl) (fun _ _ _ h => h) (by rfl) ?_ (by assumption) ?_
 ·intro w' hSw
  first | (go_simp; done) | rfl
 try simp only [Act.put, getElem_toArray, getElem_cons_succ, getElem_cons_zero, setIfInBounds_toArray, set_cons_zero, set_cons_succ]
 refine tk (i := 2) (v := .slice (some ⟨b, o, none⟩) 1 v.kc) rfl (by kernel_rfl) (fun _ _ _ h => h) (by rfl) ?_ (by assumption) ?_
 ·intro w' hSw
  obtain ⟨-, -, -, -, -, -, -, -, -, -, -, -, -, -, -, -, -, -, b18⟩ := HX.out.box w' hSw.1
  rw [HKA.out] at b18
  first | (go_simp; done) | rfl
 refine tk (i := 3) (v := .pointer (some ⟨b, o, none⟩)) rfl (by kernel_rfl) (fun _ _ _ h => h) (by rfl) ?_ (by assumption) ?_
 ·intro w' hSw
  first | (go_simp; done) | rfl
 try simp only [Act.put, getElem_toArray, getElem_cons_succ, getElem_cons_zero, setIfInBounds_toArray, set_cons_zero, set_cons_succ]
 refine tk (i := 4) (v := .agg #[.int .u8 (tget t.ks 0).h.h.k, .int .u8 (tget t.ks 0).h.h.op, .int .i64 (tget t.ks 0).h.h.pl, .int .i64 (tget t.ks 0).h.h.n, .string (tget t.ks 0).h.h.name, .string (tget t.ks 0).h.h.arg, .string (tget t.ks 0).h.h.exn, .int .i64 (tget t.ks 0).h.rho, .slice kv0.ra (tget t.ks 0).h.rhos.length kv0.rc, .slice kv0.ea (tget t.ks 0).h.e.length kv0.ec, .int .u8 (tget t.ks 0).h.ty.h.k, .int .i64 (tget t.ks 0).h.ty.h.r, .slice kv0.tea (tget t.ks 0).h.ty.h.e.length kv0.tec, .slice kv0.tka (tget t.ks 0).h.ty.ks.length kv0.tkc, .int .u8 (tget t.ks 0).h.re.h.k, .int .i64 (tget t.ks 0).h.re.h.r, .slice kv0.sea (tget t.ks 0).h.re.h.e.length kv0.sec, .slice kv0.ska (tget t.ks 0).h.re.ks.length kv0.skc, .slice kv0.ka (tget t.ks 0).ks.length kv0.kc]) rfl (by kernel_rfl) (fun _ _ _ h => h) (by rfl) ?_ (by assumption) ?_
 ·intro w' hSw
  exact exec_at _ rfl b (o) rfl (HR0.out w' hSw.2)
 refine tk (i := 5) (v := .pointer (some ⟨w.heap.size, 0, none⟩)) rfl (by kernel_rfl) (fun _ _ _ h => h) (by rfl) ?_ (by assumption) ?_
 ·intro w' hSw
  first | (go_simp; done) | rfl
 try simp only [Act.put, getElem_toArray, getElem_cons_succ, getElem_cons_zero, setIfInBounds_toArray, set_cons_zero, set_cons_succ]
 refine tk (i := 6) (v := .pointer (some ⟨w.heap.size, 6, none⟩)) rfl (by kernel_rfl) (fun _ _ _ h => h) (by rfl) ?_ (by assumption) ?_
 ·intro w' hSw
  first | (go_simp; done) | rfl
 refine tk (i := 7) (v := .string h.h.exn) rfl (by kernel_rfl) (fun _ _ _ h => h) (by rfl) ?_ (by assumption) ?_
 ·intro w' hSw
  obtain ⟨-, -, -, -, -, -, b6, -, -, -, -, -, -, -, -, -, -, -, -⟩ := HX.out.box w' hSw.1
  first | (go_simp; done) | rfl
 try simp only [Act.put, getElem_toArray, getElem_cons_succ, getElem_cons_zero, setIfInBounds_toArray, set_cons_zero, set_cons_succ]
 refine wpAnyH_ready (rs := [8]) (by kernel_rfl) (by simp) ?_
 refine AllReadyH.cons rfl (fun K hK => ?_) AllReadyH.nil
 have HK2 := Lib.hid hK
 clear hK
 try rw [if_pos (by rfl)]
 go_simp
 refine HK2.out _ _ ⟨(HI0.out.alloc (.cells #[.string ⟨#[114, 97, 105, 115, 101]⟩, .string (h.h.exn)] 9)).2.2, HL.out _ _ (HI0.out.alloc _)⟩ (fun hHeld => ?_)
 clear HK2
 try simp only [Act.put, getElem_toArray, getElem_cons_succ, getElem_cons_zero, setIfInBounds_toArray, set_cons_zero, set_cons_succ]
 clear K
 refine wpAnyH_ready (rs := [9]) (by kernel_rfl) (by simp) ?_
 refine AllReadyH.cons rfl (fun K hK => ?_) AllReadyH.nil
 have HK2 := Lib.hid hK
 clear hK
 try rw [if_pos (by rfl)]
 go_simp
 refine (Hp0.out y0 _ rfl HI0.out).mono ?_
 rintro e w1 ⟨rfl, h0⟩
 have HS1 := Lib.hid h0
 clear h0
 refine HK2.out _ _ ⟨HS1.out.2.2, HL.out _ _ HS1.out⟩ (fun hHeld => ?_)
 clear HK2
 try simp only [Act.put, getElem_toArray, getElem_cons_succ, getElem_cons_zero, setIfInBounds_toArray, set_cons_zero, set_cons_succ]
 clear K
 refine wpAnyH_done (by kernel_rfl) ?_ _
 clear hHeld
 have HRT := Lib.hid (HX.out.ty HS1.out.2.2)
 go_wp2_with (refine rt_load rfl _ rfl w.heap.size 10 rfl HRT.out ?_)
 refine (Hd1ty.out w1 HS1.out).mono ?_
 rintro e u1 ⟨rfl, g1⟩
 have HU1 := Lib.hid (HS1.out.quiet g1)
 clear g1 HRT
 go_wp2_with (fail)
 refine (Hp1.out u1 _ rfl HU1.out).mono ?_
 rintro e w2 ⟨rfl, h1⟩
 have HS2 := Lib.hid h1
 clear h1
 go_wp2_with (fail)
 go_end0
 exact HS2.out.end_.cast ES.out
set_option maxRecDepth 10000 in
set_option maxHeartbeats 6400000 in
theorem names_16 (w0 : World) (N m : Nat) (hN0 : w0.heap.size ≤ N) (hnl : NumLaid w0) (hT : TermOf w0 N m) (t : AT) (h : Hd) (v : V) (l : Nat) (ss : List ByteArray) (w : World) (hm : wt t ≤ m + 1) (hok : allT nodeB t = true) (hsm : allT smallB t = true) (hI : AtIs w0 h v l t) (hb : Below w0.heap.size w0 w) (hW : WAt N ss w) (hz : ss.length + 80 * wt t ≤ 1000001) (hk : h.h.k = 16) :
  Calls Tryz.prog 70 #[.pointer (some ⟨N, 0, none⟩), .agg #[.int .u8 h.h.k, .int .u8 h.h.op, .int .i64 h.h.pl, .int .i64 h.h.n, .string h.h.name, .string h.h.arg, .string h.h.exn, .int .i64 h.rho, .slice v.ra h.rhos.length v.rc, .slice v.ea h.e.length v.ec, .int .u8 h.ty.h.k, .int .i64 h.ty.h.r, .slice v.tea h.ty.h.e.length v.tec, .slice v.tka h.ty.ks.length v.tkc, .int .u8 h.re.h.k, .int .i64 h.re.h.r, .slice v.sea h.re.h.e.length v.sec, .slice v.ska h.re.ks.length v.skc, .slice v.ka l v.kc]] w (WEnd N (ss ++ inW h (partsK t.ks)) w) := by
 have hNl := hW.lt
 have hlen := hI.len
 have hkk := kinds hok
 rw [hI.head] at hkk
 obtain rfl : l = 2 := by omega
 have hcap := hI.cap
 have hww := wt2 hlen
 obtain ⟨b, o, hka, hkd⟩ := kid_at hI (by omega)
 have ok0 := kid_all hok (i := 0) (by omega)
 have sm0 := kid_all hsm (i := 0) (by omega)
 have wl0 := parts_le ok0 sm0
 have kg0 := kw_get (show 0 < t.ks.length by omega)
 obtain ⟨kv0, hI0, hr0⟩ := hkd 0 (by omega)
 rw [show o + 0 * 19 = o from by omega] at hr0
 have ok1 := kid_all hok (i := 1) (by omega)
 have sm1 := kid_all hsm (i := 1) (by omega)
 have wl1 := parts_le ok1 sm1
 have kg1 := kw_get (show 1 < t.ks.length by omega)
 obtain ⟨kv1, hI1, hr1⟩ := hkd 1 (by omega)
 rw [show o + 1 * 19 = o + 19 from by omega] at hr1
 have hwp := Aterm.wt_pos t
 have hsh : smallB h (0 : Nat) = true := by
  have := top_all hsm
  rw [hI.head] at this
  exact this
 have hlg := Aterm.long_no (h := h) (by unfold smallB at hsh; simpa using hsh)
 have htm := ty_may (top_all hok)
 rw [hI.head] at htm
 have es : ss ++ ([wTry] ++ partsT (tget t.ks 0)) ++ ([wWith, h.h.exn, h.h.arg, wTo] ++ partsT (tget t.ks 1)) = ss ++ inW h (partsK t.ks) := by
  unfold inW
  simp [hk, kg0, kg1]
 obtain ⟨O, hx, hst⟩ := st_start h v 2 hW
 have p0 := kid_n w0 N m hN0 hT hb hx hNl (tget t.ks 0) kv0 (by omega) ok0 sm0 hI0 [wTry] 1 (ss) rfl (by (try simp only [List.length_append, List.length_cons, List.length_nil, atW]); omega)
 have p1 := kid_n w0 N m hN0 hT hb hx hNl (tget t.ks 1) kv1 (by omega) ok1 sm1 hI1 [wWith, h.h.exn, h.h.arg, wTo] 4 (ss ++ ([wTry] ++ partsT (tget t.ks 0))) rfl (by (try simp only [List.length_append, List.length_cons, List.length_nil, atW]); omega)
 have hlow := fun W ss' (hSt : St N w w.heap.size O ss' W) => hSt.low hb hN0
 have Hp0 := Lib.hid p0; have Hp1 := Lib.hid p1; have HL := Lib.hid hlow; have HX := Lib.hid hx; have HN := Lib.hid hNl; have ES := Lib.hid es; have HR0 := Lib.hid hr0; have HR1 := Lib.hid hr1; have HKA := Lib.hid hka
 have hcq := hcap.1
 have hcl : v.kc ≤ 9223372036854775807 := hcap.2
 have q11 : (h.h.k == 11) = false := by rw [hk]; rfl
 have q12 : (h.h.k == 12) = false := by rw [hk]; rfl
 have q13 : (h.h.k == 13) = false := by rw [hk]; rfl
 have q15 : (h.h.k == 15) = false := by rw [hk]; rfl
 have q16 : (h.h.k == 16) = true := by rw [hk]; rfl
 have q17 : (h.h.k == 17) = false := by rw [hk]; rfl
 have q18 : (h.h.k == 18) = false := by rw [hk]; rfl
 have hst2 := hst
 clear p0 p1 hlow hx hNl es hr0 hr1 hka hst hW hz hm hok hsm hI hb hN0 hT hnl hlen hkk hcap hwp hsh hlg htm hww hkd hI0 hI1 ok0 sm0 wl0 kg0 ok1 sm1 wl1 kg1
 clear hk
 go_enter Tryz.func70, Tryz.ntmps70
 go_upto_region 1 with (fail)
 refine of_world (F := fun V => St N w w.heap.size O ss V) hst2 ?_
 intro W0 hst0
 have HS0 := Lib.hid hst0
 clear hst2 hst0
 obtain ⟨b0, -, -, -, -, -, -, -, -, -, -, -, -, -, -, -, -, -, b18⟩ := HX.out.box W0 HS0.out.2.2
 rw [HKA.out] at b18
 have HK := Lib.hid (HR0.out W0 (HL.out W0 _ HS0.out))
 go_wp2_with (refine at_load rfl _ rfl b (o) rfl HK.out ?_)
 refine (Hp0.out W0 _ rfl HS0.out).mono ?_
 rintro e w1 ⟨rfl, h0⟩
 have HS1 := Lib.hid h0
 clear h0 b0 b18 HK
 go_upto_region 19 with (fail)
 have hini : St N w w.heap.size O (ss ++ ([wTry] ++ partsT (tget t.ks 0))) w1.drew := HS1.out.drew
 refine wp_region_held_drew (S := fun (V : World) => V.heap[w.heap.size]? = some O ∧ Below w0.heap.size w0 V) (by kernel_rfl) ⟨hini.2.2, HL.out _ _ hini⟩ (fun hHeld => ?_)
 have HI1 := Lib.hid hini
 clear hini
 generalize w1.drew = y1 at *
 refine tk (i := 0) (v := .pointer (some ⟨N, 0, none⟩)) rfl (by kernel_rfl) (fun _ _ _ h => h) (by rfl) ?_ (by assumption) ?_
 ·intro w' hSw
  first | (go_simp; done) | rfl
 refine tk (i := 1) (v := .pointer (some ⟨w.heap.size, 18, none⟩)) rfl (by kernel_rfl) (fun _ _ _ h => h) (by rfl) ?_ (by assumption) ?_
 ·intro w' hSw
  first | (go_simp; done) | rfl
 try simp only [Act.put, getElem_toArray, getElem_cons_succ, getElem_cons_zero, setIfInBounds_toArray, set_cons_zero, set_cons_succ]
 refine tk (i := 2) (v := .slice (some ⟨b, o, none⟩) 2 v.kc) rfl (by kernel_rfl) (fun _ _ _ h => h) (by rfl) ?_ (by assumption) ?_
 ·intro w' hSw
  obtain ⟨-, -, -, -, -, -, -, -, -, -, -, -, -, -, -, -, -, -, b18⟩ := HX.out.box w' hSw.1
  rw [HKA.out] at b18
  first | (go_simp; done) | rfl
 refine tk (i := 3) (v := .pointer (some ⟨b, o + 19, none⟩)) rfl (by kernel_rfl) (fun _ _ _ h => h) (by rfl) ?_ (by assumption) ?_
 ·intro w' hSw
  first | (go_simp; done) | rfl
 try simp only [Act.put, getElem_toArray, getElem_cons_succ, getElem_cons_zero, setIfInBounds_toArray, set_cons_zero, set_cons_succ]
 refine tk (i := 4) (v := .agg #[.int .u8 (tget t.ks 1).h.h.k, .int .u8 (tget t.ks 1).h.h.op, .int .i64 (tget t.ks 1).h.h.pl, .int .i64 (tget t.ks 1).h.h.n, .string (tget t.ks 1).h.h.name, .string (tget t.ks 1).h.h.arg, .string (tget t.ks 1).h.h.exn, .int .i64 (tget t.ks 1).h.rho, .slice kv1.ra (tget t.ks 1).h.rhos.length kv1.rc, .slice kv1.ea (tget t.ks 1).h.e.length kv1.ec, .int .u8 (tget t.ks 1).h.ty.h.k, .int .i64 (tget t.ks 1).h.ty.h.r, .slice kv1.tea (tget t.ks 1).h.ty.h.e.length kv1.tec, .slice kv1.tka (tget t.ks 1).h.ty.ks.length kv1.tkc, .int .u8 (tget t.ks 1).h.re.h.k, .int .i64 (tget t.ks 1).h.re.h.r, .slice kv1.sea (tget t.ks 1).h.re.h.e.length kv1.sec, .slice kv1.ska (tget t.ks 1).h.re.ks.length kv1.skc, .slice kv1.ka (tget t.ks 1).ks.length kv1.kc]) rfl (by kernel_rfl) (fun _ _ _ h => h) (by rfl) ?_ (by assumption) ?_
 ·intro w' hSw
  exact exec_at _ rfl b (o + 19) rfl (HR1.out w' hSw.2)
 refine tk (i := 5) (v := .pointer (some ⟨w.heap.size, 0, none⟩)) rfl (by kernel_rfl) (fun _ _ _ h => h) (by rfl) ?_ (by assumption) ?_
 ·intro w' hSw
  first | (go_simp; done) | rfl
 try simp only [Act.put, getElem_toArray, getElem_cons_succ, getElem_cons_zero, setIfInBounds_toArray, set_cons_zero, set_cons_succ]
 refine tk (i := 6) (v := .pointer (some ⟨w.heap.size, 6, none⟩)) rfl (by kernel_rfl) (fun _ _ _ h => h) (by rfl) ?_ (by assumption) ?_
 ·intro w' hSw
  first | (go_simp; done) | rfl
 refine tk (i := 7) (v := .string h.h.exn) rfl (by kernel_rfl) (fun _ _ _ h => h) (by rfl) ?_ (by assumption) ?_
 ·intro w' hSw
  obtain ⟨-, -, -, -, -, -, b6, -, -, -, -, -, -, -, -, -, -, -, -⟩ := HX.out.box w' hSw.1
  first | (go_simp; done) | rfl
 try simp only [Act.put, getElem_toArray, getElem_cons_succ, getElem_cons_zero, setIfInBounds_toArray, set_cons_zero, set_cons_succ]
 refine tk (i := 8) (v := .pointer (some ⟨w.heap.size, 0, none⟩)) rfl (by kernel_rfl) (fun _ _ _ h => h) (by rfl) ?_ (by assumption) ?_
 ·intro w' hSw
  first | (go_simp; done) | rfl
 refine tk (i := 9) (v := .pointer (some ⟨w.heap.size, 5, none⟩)) rfl (by kernel_rfl) (fun _ _ _ h => h) (by rfl) ?_ (by assumption) ?_
 ·intro w' hSw
  first | (go_simp; done) | rfl
 try simp only [Act.put, getElem_toArray, getElem_cons_succ, getElem_cons_zero, setIfInBounds_toArray, set_cons_zero, set_cons_succ]
 refine tk (i := 10) (v := .string h.h.arg) rfl (by kernel_rfl) (fun _ _ _ h => h) (by rfl) ?_ (by assumption) ?_
 ·intro w' hSw
  obtain ⟨-, -, -, -, -, b5, -, -, -, -, -, -, -, -, -, -, -, -, -⟩ := HX.out.box w' hSw.1
  first | (go_simp; done) | rfl
 try simp only [Act.put, getElem_toArray, getElem_cons_succ, getElem_cons_zero, setIfInBounds_toArray, set_cons_zero, set_cons_succ]
 refine wpAnyH_ready (rs := [11]) (by kernel_rfl) (by simp) ?_
 refine AllReadyH.cons rfl (fun K hK => ?_) AllReadyH.nil
 have HK2 := Lib.hid hK
 clear hK
 try rw [if_pos (by rfl)]
 go_simp
 refine HK2.out _ _ ⟨(HI1.out.alloc (.cells #[.string ⟨#[119, 105, 116, 104]⟩, .string (h.h.exn), .string (h.h.arg), .string ⟨#[61, 62]⟩] 9)).2.2, HL.out _ _ (HI1.out.alloc _)⟩ (fun hHeld => ?_)
 clear HK2
 try simp only [Act.put, getElem_toArray, getElem_cons_succ, getElem_cons_zero, setIfInBounds_toArray, set_cons_zero, set_cons_succ]
 clear K
 refine wpAnyH_ready (rs := [12]) (by kernel_rfl) (by simp) ?_
 refine AllReadyH.cons rfl (fun K hK => ?_) AllReadyH.nil
 have HK2 := Lib.hid hK
 clear hK
 try rw [if_pos (by rfl)]
 go_simp
 refine (Hp1.out y1 _ rfl HI1.out).mono ?_
 rintro e w2 ⟨rfl, h1⟩
 have HS2 := Lib.hid h1
 clear h1
 refine HK2.out _ _ ⟨HS2.out.2.2, HL.out _ _ HS2.out⟩ (fun hHeld => ?_)
 clear HK2
 try simp only [Act.put, getElem_toArray, getElem_cons_succ, getElem_cons_zero, setIfInBounds_toArray, set_cons_zero, set_cons_succ]
 clear K
 refine wpAnyH_done (by kernel_rfl) ?_ _
 clear hHeld
 go_wp2_with (fail)
 go_end0
 exact HS2.out.end_.cast ES.out
set_option maxRecDepth 10000 in
set_option maxHeartbeats 6400000 in
theorem names_17 (w0 : World) (N m : Nat) (hN0 : w0.heap.size ≤ N) (hnl : NumLaid w0) (hT : TermOf w0 N m) (t : AT) (h : Hd) (v : V) (l : Nat) (ss : List ByteArray) (w : World) (hm : wt t ≤ m + 1) (hok : allT nodeB t = true) (hsm : allT smallB t = true) (hI : AtIs w0 h v l t) (hb : Below w0.heap.size w0 w) (hW : WAt N ss w) (hz : ss.length + 80 * wt t ≤ 1000001) (hk : h.h.k = 17) :
  Calls Tryz.prog 70 #[.pointer (some ⟨N, 0, none⟩), .agg #[.int .u8 h.h.k, .int .u8 h.h.op, .int .i64 h.h.pl, .int .i64 h.h.n, .string h.h.name, .string h.h.arg, .string h.h.exn, .int .i64 h.rho, .slice v.ra h.rhos.length v.rc, .slice v.ea h.e.length v.ec, .int .u8 h.ty.h.k, .int .i64 h.ty.h.r, .slice v.tea h.ty.h.e.length v.tec, .slice v.tka h.ty.ks.length v.tkc, .int .u8 h.re.h.k, .int .i64 h.re.h.r, .slice v.sea h.re.h.e.length v.sec, .slice v.ska h.re.ks.length v.skc, .slice v.ka l v.kc]] w (WEnd N (ss ++ inW h (partsK t.ks)) w) := by
 have hNl := hW.lt
 have hlen := hI.len
 have hkk := kinds hok
 rw [hI.head] at hkk
 obtain rfl : l = 1 := by omega
 have hcap := hI.cap
 have hww := wt1 hlen
 obtain ⟨b, o, hka, hkd⟩ := kid_at hI (by omega)
 have ok0 := kid_all hok (i := 0) (by omega)
 have sm0 := kid_all hsm (i := 0) (by omega)
 have wl0 := parts_le ok0 sm0
 have kg0 := kw_get (show 0 < t.ks.length by omega)
 obtain ⟨kv0, hI0, hr0⟩ := hkd 0 (by omega)
 rw [show o + 0 * 19 = o from by omega] at hr0
 have hwp := Aterm.wt_pos t
 have hsh : smallB h (0 : Nat) = true := by
  have := top_all hsm
  rw [hI.head] at this
  exact this
 have hlg := Aterm.long_no (h := h) (by unfold smallB at hsh; simpa using hsh)
 have htm := ty_may (top_all hok)
 rw [hI.head] at htm
 have es : ss ++ ([wRegion, digs h.rho, wIn] ++ partsT (tget t.ks 0)) = ss ++ inW h (partsK t.ks) := by
  unfold inW
  simp [hk, kg0]
 obtain ⟨O, hx, hst⟩ := st_start h v 1 hW
 have p0 := kid_n w0 N m hN0 hT hb hx hNl (tget t.ks 0) kv0 (by omega) ok0 sm0 hI0 [wRegion, digs h.rho, wIn] 3 (ss) rfl (by (try simp only [List.length_append, List.length_cons, List.length_nil, atW]); omega)
 have d0rho := fun W (hSt : St N w w.heap.size O (ss) W) => region_walk h.rho hI.ok.rho.1 hI.ok.rho.2 W (hnl.below (hSt.low hb hN0))
 have hlow := fun W ss' (hSt : St N w w.heap.size O ss' W) => hSt.low hb hN0
 have Hp0 := Lib.hid p0; have Hd0rho := Lib.hid d0rho; have HL := Lib.hid hlow; have HX := Lib.hid hx; have HN := Lib.hid hNl; have ES := Lib.hid es; have HR0 := Lib.hid hr0; have HKA := Lib.hid hka
 have hcq := hcap.1
 have hcl : v.kc ≤ 9223372036854775807 := hcap.2
 have q11 : (h.h.k == 11) = false := by rw [hk]; rfl
 have q12 : (h.h.k == 12) = false := by rw [hk]; rfl
 have q13 : (h.h.k == 13) = false := by rw [hk]; rfl
 have q15 : (h.h.k == 15) = false := by rw [hk]; rfl
 have q16 : (h.h.k == 16) = false := by rw [hk]; rfl
 have q17 : (h.h.k == 17) = true := by rw [hk]; rfl
 have q18 : (h.h.k == 18) = false := by rw [hk]; rfl
 have hst2 := hst
 clear p0 d0rho hlow hx hNl es hr0 hka hst hW hz hm hok hsm hI hb hN0 hT hnl hlen hkk hcap hwp hsh hlg htm hww hkd hI0 ok0 sm0 wl0 kg0
 clear hk
 go_enter Tryz.func70, Tryz.ntmps70
 go_upto_region 1 with (fail)
 refine of_world (F := fun V => St N w w.heap.size O ss V) hst2 ?_
 intro W0 hst0
 have HS0 := Lib.hid hst0
 clear hst2 hst0
 obtain ⟨b0, -, -, -, -, -, -, -, -, -, -, -, -, -, -, -, -, -, -⟩ := HX.out.box W0 HS0.out.2.2
 go_upto_region 21 with (fail)
 clear b0
 have hini : St N w w.heap.size O (ss) W0.drew := HS0.out.drew
 refine wp_region_held_drew (S := fun (V : World) => V.heap[w.heap.size]? = some O ∧ Below w0.heap.size w0 V) (by kernel_rfl) ⟨hini.2.2, HL.out _ _ hini⟩ (fun hHeld => ?_)
 have HI0 := Lib.hid hini
 clear hini
 generalize W0.drew = y0 at *
 refine tk (i := 0) (v := .pointer (some ⟨N, 0, none⟩)) rfl (by kernel_rfl) (fun _ _ _ h => h) (by rfl) ?_ (by assumption) ?_
 ·intro w' hSw
  first | (go_simp; done) | rfl
 try simp only [Act.put, getElem_toArray, getElem_cons_succ, getElem_cons_zero, setIfInBounds_toArray, set_cons_zero, set_cons_succ]
 refine tk (i := 1) (v := .pointer (some ⟨w.heap.size, 18, none⟩)) rfl (by kernel_rfl) (fun _ _ _ h => h) (by rfl) ?_ (by assumption) ?_
 ·intro w' hSw
  first | (go_simp; done) | rfl
 refine tk (i := 2) (v := .slice (some ⟨b, o, none⟩) 1 v.kc) rfl (by kernel_rfl) (fun _ _ _ h => h) (by rfl) ?_ (by assumption) ?_
 ·intro w' hSw
  obtain ⟨-, -, -, -, -, -, -, -, -, -, -, -, -, -, -, -, -, -, b18⟩ := HX.out.box w' hSw.1
  rw [HKA.out] at b18
  first | (go_simp; done) | rfl
 try simp only [Act.put, getElem_toArray, getElem_cons_succ, getElem_cons_zero, setIfInBounds_toArray, set_cons_zero, set_cons_succ]
 refine tk (i := 3) (v := .pointer (some ⟨b, o, none⟩)) rfl (by kernel_rfl) (fun _ _ _ h => h) (by rfl) ?_ (by assumption) ?_
 ·intro w' hSw
  first | (go_simp; done) | rfl
 refine tk (i := 4) (v := .agg #[.int .u8 (tget t.ks 0).h.h.k, .int .u8 (tget t.ks 0).h.h.op, .int .i64 (tget t.ks 0).h.h.pl, .int .i64 (tget t.ks 0).h.h.n, .string (tget t.ks 0).h.h.name, .string (tget t.ks 0).h.h.arg, .string (tget t.ks 0).h.h.exn, .int .i64 (tget t.ks 0).h.rho, .slice kv0.ra (tget t.ks 0).h.rhos.length kv0.rc, .slice kv0.ea (tget t.ks 0).h.e.length kv0.ec, .int .u8 (tget t.ks 0).h.ty.h.k, .int .i64 (tget t.ks 0).h.ty.h.r, .slice kv0.tea (tget t.ks 0).h.ty.h.e.length kv0.tec, .slice kv0.tka (tget t.ks 0).h.ty.ks.length kv0.tkc, .int .u8 (tget t.ks 0).h.re.h.k, .int .i64 (tget t.ks 0).h.re.h.r, .slice kv0.sea (tget t.ks 0).h.re.h.e.length kv0.sec, .slice kv0.ska (tget t.ks 0).h.re.ks.length kv0.skc, .slice kv0.ka (tget t.ks 0).ks.length kv0.kc]) rfl (by kernel_rfl) (fun _ _ _ h => h) (by rfl) ?_ (by assumption) ?_
 ·intro w' hSw
  exact exec_at _ rfl b (o) rfl (HR0.out w' hSw.2)
 try simp only [Act.put, getElem_toArray, getElem_cons_succ, getElem_cons_zero, setIfInBounds_toArray, set_cons_zero, set_cons_succ]
 refine tk (i := 5) (v := .pointer (some ⟨w.heap.size, 7, none⟩)) rfl (by kernel_rfl) (fun _ _ _ h => h) (by rfl) ?_ (by assumption) ?_
 ·intro w' hSw
  first | (go_simp; done) | rfl
 refine tk (i := 6) (v := .int .i64 h.rho) rfl (by kernel_rfl) (fun _ _ _ h => h) (by rfl) ?_ (by assumption) ?_
 ·intro w' hSw
  obtain ⟨-, -, -, -, -, -, -, b7, -, -, -, -, -, -, -, -, -, -, -⟩ := HX.out.box w' hSw.1
  first | (go_simp; done) | rfl
 try simp only [Act.put, getElem_toArray, getElem_cons_succ, getElem_cons_zero, setIfInBounds_toArray, set_cons_zero, set_cons_succ]
 refine wpAnyH_ready (rs := [7]) (by kernel_rfl) (by simp) ?_
 refine AllReadyH.cons rfl (fun K hK => ?_) AllReadyH.nil
 have HK2 := Lib.hid hK
 clear hK
 try rw [if_pos (by rfl)]
 go_simp
 refine (Hd0rho.out y0 HI0.out).mono ?_
 rintro e z0_0 ⟨rfl, g⟩
 have HZ0_0 := Lib.hid (HI0.out.quiet g)
 clear g
 refine HK2.out _ _ ⟨HZ0_0.out.2.2, HL.out _ _ HZ0_0.out⟩ (fun hHeld => ?_)
 clear HK2
 try simp only [Act.put, getElem_toArray, getElem_cons_succ, getElem_cons_zero, setIfInBounds_toArray, set_cons_zero, set_cons_succ]
 clear K
 refine wpAnyH_ready (rs := [8]) (by kernel_rfl) (by simp) ?_
 refine AllReadyH.cons rfl (fun K hK => ?_) AllReadyH.nil
 have HK2 := Lib.hid hK
 clear hK
 try rw [if_pos (by rfl)]
 go_simp
 refine HK2.out _ _ ⟨(HZ0_0.out.alloc (.cells #[.string ⟨#[114, 101, 103, 105, 111, 110]⟩, .string (digs h.rho), .string ⟨#[105, 110]⟩] 9)).2.2, HL.out _ _ (HZ0_0.out.alloc _)⟩ (fun hHeld => ?_)
 clear HK2
 try simp only [Act.put, getElem_toArray, getElem_cons_succ, getElem_cons_zero, setIfInBounds_toArray, set_cons_zero, set_cons_succ]
 clear K
 refine wpAnyH_ready (rs := [9]) (by kernel_rfl) (by simp) ?_
 refine AllReadyH.cons rfl (fun K hK => ?_) AllReadyH.nil
 have HK2 := Lib.hid hK
 clear hK
 try rw [if_pos (by rfl)]
 go_simp
 refine (Hp0.out z0_0 _ rfl HZ0_0.out).mono ?_
 rintro e w1 ⟨rfl, h0⟩
 have HS1 := Lib.hid h0
 clear h0
 refine HK2.out _ _ ⟨HS1.out.2.2, HL.out _ _ HS1.out⟩ (fun hHeld => ?_)
 clear HK2
 try simp only [Act.put, getElem_toArray, getElem_cons_succ, getElem_cons_zero, setIfInBounds_toArray, set_cons_zero, set_cons_succ]
 clear K
 refine wpAnyH_done (by kernel_rfl) ?_ _
 clear hHeld
 go_wp2_with (fail)
 go_end0
 exact HS1.out.end_.cast ES.out
set_option maxRecDepth 10000 in
set_option maxHeartbeats 6400000 in
theorem names_18 (w0 : World) (N m : Nat) (hN0 : w0.heap.size ≤ N) (hnl : NumLaid w0) (hT : TermOf w0 N m) (t : AT) (h : Hd) (v : V) (l : Nat) (ss : List ByteArray) (w : World) (hm : wt t ≤ m + 1) (hok : allT nodeB t = true) (hsm : allT smallB t = true) (hI : AtIs w0 h v l t) (hb : Below w0.heap.size w0 w) (hW : WAt N ss w) (hz : ss.length + 80 * wt t ≤ 1000001) (hk : h.h.k = 18) :
  Calls Tryz.prog 70 #[.pointer (some ⟨N, 0, none⟩), .agg #[.int .u8 h.h.k, .int .u8 h.h.op, .int .i64 h.h.pl, .int .i64 h.h.n, .string h.h.name, .string h.h.arg, .string h.h.exn, .int .i64 h.rho, .slice v.ra h.rhos.length v.rc, .slice v.ea h.e.length v.ec, .int .u8 h.ty.h.k, .int .i64 h.ty.h.r, .slice v.tea h.ty.h.e.length v.tec, .slice v.tka h.ty.ks.length v.tkc, .int .u8 h.re.h.k, .int .i64 h.re.h.r, .slice v.sea h.re.h.e.length v.sec, .slice v.ska h.re.ks.length v.skc, .slice v.ka l v.kc]] w (WEnd N (ss ++ inW h (partsK t.ks)) w) := by
 have hNl := hW.lt
 have hlen := hI.len
 have hkk := kinds hok
 rw [hI.head] at hkk
 obtain rfl : l = 0 := by omega
 have hcap := hI.cap
 have hwp := Aterm.wt_pos t
 have hsh : smallB h (0 : Nat) = true := by
  have := top_all hsm
  rw [hI.head] at this
  exact this
 have hlg := Aterm.long_no (h := h) (by unfold smallB at hsh; simpa using hsh)
 have htm := ty_may (top_all hok)
 rw [hI.head] at htm
 have hrl : (rhosW h.rhos).length = h.rhos.length + 2 := by unfold rhosW; simp
 have hr50 := hlg.1.2.2.2
 have es : ss ++ [h.h.name] ++ rhosW h.rhos ++ [wBang, efT h.e] ++ atW h.rho = ss ++ inW h (partsK t.ks) := by
  unfold inW
  simp [hk]
 obtain ⟨O, hx, hst⟩ := st_start h v 0 hW
 have p0 := fun W M hM hSt => put_n (w := w) hx hNl [h.h.name] W M 1 (ss) hM rfl hSt (by (try simp only [List.length_append, List.length_cons, List.length_nil, atW]); omega)
 have p1 := regions_n w0 N hN0 hnl hb hx hNl h.rhos v.ra h.rhos.length v.rc hI.ok.rhos (by omega) hI.ok.rcap (ss ++ [h.h.name]) (by (try simp only [List.length_append, List.length_cons, List.length_nil, atW]); omega)
 have p2 := fun W M hM hSt => put_n (w := w) hx hNl [wBang, efT h.e] W M 2 (ss ++ [h.h.name] ++ rhosW h.rhos) hM rfl hSt (by (try simp only [List.length_append, List.length_cons, List.length_nil, atW]); omega)
 have d2ef := fun W (hSt : St N w w.heap.size O (ss ++ [h.h.name] ++ rhosW h.rhos) W) => Effect.text_walk (c := v.ec) (hI.ok.eff.below (hSt.low hb hN0)).rd (by have := (Effect.great_no hlg.2.1).1; omega) (Rt.sh_eff (n := 100) hI.ok.eok (Effect.great_no hlg.2.1).2 (by omega)) (hnl.below (hSt.low hb hN0))
 have p3 := at_n w0 N hN0 hnl hb hx hNl h.rho hI.ok.rho (ss ++ [h.h.name] ++ rhosW h.rhos ++ [wBang, efT h.e]) (by (try simp only [List.length_append, List.length_cons, List.length_nil, atW]); omega)
 have hlow := fun W ss' (hSt : St N w w.heap.size O ss' W) => hSt.low hb hN0
 have Hp0 := Lib.hid p0; have Hp1 := Lib.hid p1; have Hp2 := Lib.hid p2; have Hd2ef := Lib.hid d2ef; have Hp3 := Lib.hid p3; have HL := Lib.hid hlow; have HX := Lib.hid hx; have HN := Lib.hid hNl; have ES := Lib.hid es
 have hcq := hcap.1
 have hcl : v.kc ≤ 9223372036854775807 := hcap.2
 have q11 : (h.h.k == 11) = false := by rw [hk]; rfl
 have q12 : (h.h.k == 12) = false := by rw [hk]; rfl
 have q13 : (h.h.k == 13) = false := by rw [hk]; rfl
 have q15 : (h.h.k == 15) = false := by rw [hk]; rfl
 have q16 : (h.h.k == 16) = false := by rw [hk]; rfl
 have q17 : (h.h.k == 17) = false := by rw [hk]; rfl
 have q18 : (h.h.k == 18) = true := by rw [hk]; rfl
 have hst2 := hst
 clear p0 p1 p2 d2ef p3 hlow hx hNl es hst hW hz hm hok hsm hI hb hN0 hT hnl hlen hkk hcap hwp hsh hlg htm hrl hr50
 clear hk
 go_enter Tryz.func70, Tryz.ntmps70
 go_upto_region 1 with (fail)
 refine of_world (F := fun V => St N w w.heap.size O ss V) hst2 ?_
 intro W0 hst0
 have HS0 := Lib.hid hst0
 clear hst2 hst0
 obtain ⟨b0, -, -, -, b4, -, -, -, -, -, -, -, -, -, -, -, -, -, -⟩ := HX.out.box W0 HS0.out.2.2
 go_wp2_with (fail)
 refine (Hp0.out W0 _ rfl HS0.out).mono ?_
 rintro e w1 ⟨rfl, h0⟩
 have HS1 := Lib.hid h0
 clear h0 b0 b4
 obtain ⟨-, -, -, -, -, -, -, -, b8, -, -, -, -, -, -, -, -, -, -⟩ := HX.out.box w1 HS1.out.2.2
 go_wp2_with (fail)
 refine (Hp1.out w1 HS1.out).mono ?_
 rintro e w2 ⟨rfl, h1⟩
 have HS2 := Lib.hid h1
 clear h1 b8
 obtain ⟨-, -, -, -, -, -, -, -, -, b9, -, -, -, -, -, -, -, -, -⟩ := HX.out.box w2 HS2.out.2.2
 go_wp2_with (fail)
 refine (Hd2ef.out w2 HS2.out).mono ?_
 rintro e u2 ⟨rfl, g2⟩
 have HU2 := Lib.hid (HS2.out.quiet g2)
 clear g2 b9
 go_wp2_with (fail)
 refine (Hp2.out u2 _ rfl HU2.out).mono ?_
 rintro e w3 ⟨rfl, h2⟩
 have HS3 := Lib.hid h2
 clear h2
 obtain ⟨-, -, -, -, -, -, -, b7, -, -, -, -, -, -, -, -, -, -, -⟩ := HX.out.box w3 HS3.out.2.2
 go_wp2_with (fail)
 refine (Hp3.out w3 HS3.out).mono ?_
 rintro e w4 ⟨rfl, h3⟩
 have HS4 := Lib.hid h3
 clear h3 b7
 go_wp2_with (fail)
 go_end0
 exact HS4.out.end_.cast ES.out
end Disp
end Go.Proofs.YtkfkpjngiffamaaGreatDoor
namespace Go.Proofs.YtkfkpjngiffamaaGreatDoor
open Go.RowKit
open List (getElem_toArray getElem_cons_succ getElem_cons_zero setIfInBounds_toArray set_cons_zero set_cons_succ)
set_option linter.unusedVariables false
set_option linter.unusedSimpArgs false
namespace Disp
open Effect (At AtOk AtsAt Rd RdI ofA ret_i64 ret_bool lt_of_block heap_alloc_new own_slice digs NumLaid textE)
open Aterm (AT Hd V AtIs HdIs Kids acells tget wt wts nodeB allT allK smallB Box box_of at_load exec_at range_below of_world atInfo)
open Rt (box_new below_then kw wAt wBang)
open Types (jb wInt wOpen wShut wStar wRef wArrow)
set_option maxRecDepth 10000 in
set_option maxHeartbeats 6400000 in
theorem names_11 (w0 : World) (N m : Nat) (hN0 : w0.heap.size ≤ N) (hnl : NumLaid w0) (hT : TermOf w0 N m) (t : AT) (h : Hd) (v : V) (l : Nat) (ss : List ByteArray) (w : World) (hm : wt t ≤ m + 1) (hok : allT nodeB t = true) (hsm : allT smallB t = true) (hI : AtIs w0 h v l t) (hb : Below w0.heap.size w0 w) (hW : WAt N ss w) (hz : ss.length + 80 * wt t ≤ 1000001) (hk : h.h.k = 11) :
  Calls Tryz.prog 70 #[.pointer (some ⟨N, 0, none⟩), .agg #[.int .u8 h.h.k, .int .u8 h.h.op, .int .i64 h.h.pl, .int .i64 h.h.n, .string h.h.name, .string h.h.arg, .string h.h.exn, .int .i64 h.rho, .slice v.ra h.rhos.length v.rc, .slice v.ea h.e.length v.ec, .int .u8 h.ty.h.k, .int .i64 h.ty.h.r, .slice v.tea h.ty.h.e.length v.tec, .slice v.tka h.ty.ks.length v.tkc, .int .u8 h.re.h.k, .int .i64 h.re.h.r, .slice v.sea h.re.h.e.length v.sec, .slice v.ska h.re.ks.length v.skc, .slice v.ka l v.kc]] w (WEnd N (ss ++ inW h (partsK t.ks)) w) := by
 have hNl := hW.lt
 have hlen := hI.len
 have hkk := kinds hok
 rw [hI.head] at hkk
 obtain rfl : l = 1 := by omega
 have hcap := hI.cap
 have hww := wt1 hlen
 obtain ⟨b, o, hka, hkd⟩ := kid_at hI (by omega)
 have ok0 := kid_all hok (i := 0) (by omega)
 have sm0 := kid_all hsm (i := 0) (by omega)
 have wl0 := parts_le ok0 sm0
 have kg0 := kw_get (show 0 < t.ks.length by omega)
 obtain ⟨kv0, hI0, hr0⟩ := hkd 0 (by omega)
 rw [show o + 0 * 19 = o from by omega] at hr0
 have hwp := Aterm.wt_pos t
 have hsh : smallB h (0 : Nat) = true := by
  have := top_all hsm
  rw [hI.head] at this
  exact this
 have hlg := Aterm.long_no (h := h) (by unfold smallB at hsh; simpa using hsh)
 have htm := ty_may (top_all hok)
 rw [hI.head] at htm
 have es : ss ++ ([wFn, h.h.arg, wColon, tyT h.ty, wBang, efT h.e, wTo] ++ partsT (tget t.ks 0)) ++ atW h.rho = ss ++ inW h (partsK t.ks) := by
  unfold inW
  simp [hk, kg0]
 obtain ⟨O, hx, hst⟩ := st_start h v 1 hW
 have p0 := kid_n w0 N m hN0 hT hb hx hNl (tget t.ks 0) kv0 (by omega) ok0 sm0 hI0 [wFn, h.h.arg, wColon, tyT h.ty, wBang, efT h.e, wTo] 7 (ss) rfl (by (try simp only [List.length_append, List.length_cons, List.length_nil, atW]); omega)
 have d0ty := fun W (hSt : St N w w.heap.size O (ss) W) => typ_walk h.ty v.tea v.tec v.tka v.tkc W (hI.ok.ty.below (hSt.low hb hN0)) (htm.1 (by omega)) (Rt.small_eff hlg.2.2.1).1 (Rt.small_eff hlg.2.2.1).2 (hnl.below (hSt.low hb hN0))
 have d0ef := fun W (hSt : St N w w.heap.size O (ss) W) => Effect.text_walk (c := v.ec) (hI.ok.eff.below (hSt.low hb hN0)).rd (by have := (Effect.great_no hlg.2.1).1; omega) (Rt.sh_eff (n := 100) hI.ok.eok (Effect.great_no hlg.2.1).2 (by omega)) (hnl.below (hSt.low hb hN0))
 have p1 := at_n w0 N hN0 hnl hb hx hNl h.rho hI.ok.rho (ss ++ ([wFn, h.h.arg, wColon, tyT h.ty, wBang, efT h.e, wTo] ++ partsT (tget t.ks 0))) (by (try simp only [List.length_append, List.length_cons, List.length_nil, atW]); omega)
 have hlow := fun W ss' (hSt : St N w w.heap.size O ss' W) => hSt.low hb hN0
 have Hp0 := Lib.hid p0; have Hd0ty := Lib.hid d0ty; have Hd0ef := Lib.hid d0ef; have Hp1 := Lib.hid p1; have HL := Lib.hid hlow; have HX := Lib.hid hx; have HN := Lib.hid hNl; have ES := Lib.hid es; have HR0 := Lib.hid hr0; have HKA := Lib.hid hka
 have hcq := hcap.1
 have hcl : v.kc ≤ 9223372036854775807 := hcap.2
 have q11 : (h.h.k == 11) = true := by rw [hk]; rfl
 have q12 : (h.h.k == 12) = false := by rw [hk]; rfl
 have q13 : (h.h.k == 13) = false := by rw [hk]; rfl
 have q15 : (h.h.k == 15) = false := by rw [hk]; rfl
 have q16 : (h.h.k == 16) = false := by rw [hk]; rfl
 have q17 : (h.h.k == 17) = false := by rw [hk]; rfl
 have q18 : (h.h.k == 18) = false := by rw [hk]; rfl
 have hst2 := hst
 clear p0 d0ty d0ef p1 hlow hx hNl es hr0 hka hst hW hz hm hok hsm hI hb hN0 hT hnl hlen hkk hcap hwp hsh hlg htm hww hkd hI0 ok0 sm0 wl0 kg0
 clear hk
 go_enter Tryz.func70, Tryz.ntmps70
 go_upto_region 1 with (fail)
 refine of_world (F := fun V => St N w w.heap.size O ss V) hst2 ?_
 intro W0 hst0
 have HS0 := Lib.hid hst0
 clear hst2 hst0
 obtain ⟨b0, -, -, -, -, -, -, -, -, -, -, -, -, -, -, -, -, -, -⟩ := HX.out.box W0 HS0.out.2.2
 go_upto_region 3 with (fail)
 clear b0
 have hini : St N w w.heap.size O (ss) W0.drew := HS0.out.drew
 refine wp_region_held_drew (S := fun (V : World) => V.heap[w.heap.size]? = some O ∧ Below w0.heap.size w0 V) (by kernel_rfl) ⟨hini.2.2, HL.out _ _ hini⟩ (fun hHeld => ?_)
 have HI0 := Lib.hid hini
 clear hini
 generalize W0.drew = y0 at *
 refine tk (i := 0) (v := .pointer (some ⟨N, 0, none⟩)) rfl (by kernel_rfl) (fun _ _ _ h => h) (by rfl) ?_ (by assumption) ?_
 ·intro w' hSw
  first | (go_simp; done) | rfl
 refine tk (i := 1) (v := .pointer (some ⟨w.heap.size, 18, none⟩)) rfl (by kernel_rfl) (fun _ _ _ h => h) (by rfl) ?_ (by assumption) ?_
 ·intro w' hSw
  first | (go_simp; done) | rfl
 try simp only [Act.put, getElem_toArray, getElem_cons_succ, getElem_cons_zero, setIfInBounds_toArray, set_cons_zero, set_cons_succ]
 refine tk (i := 2) (v := .slice (some ⟨b, o, none⟩) 1 v.kc) rfl (by kernel_rfl) (fun _ _ _ h => h) (by rfl) ?_ (by assumption) ?_
 ·intro w' hSw
  obtain ⟨-, -, -, -, -, -, -, -, -, -, -, -, -, -, -, -, -, -, b18⟩ := HX.out.box w' hSw.1
  rw [HKA.out] at b18
  first | (go_simp; done) | rfl
 refine tk (i := 3) (v := .pointer (some ⟨b, o, none⟩)) rfl (by kernel_rfl) (fun _ _ _ h => h) (by rfl) ?_ (by assumption) ?_
 ·intro w' hSw
  first | (go_simp; done) | rfl
 try simp only [Act.put, getElem_toArray, getElem_cons_succ, getElem_cons_zero, setIfInBounds_toArray, set_cons_zero, set_cons_succ]
 refine tk (i := 4) (v := .agg #[.int .u8 (tget t.ks 0).h.h.k, .int .u8 (tget t.ks 0).h.h.op, .int .i64 (tget t.ks 0).h.h.pl, .int .i64 (tget t.ks 0).h.h.n, .string (tget t.ks 0).h.h.name, .string (tget t.ks 0).h.h.arg, .string (tget t.ks 0).h.h.exn, .int .i64 (tget t.ks 0).h.rho, .slice kv0.ra (tget t.ks 0).h.rhos.length kv0.rc, .slice kv0.ea (tget t.ks 0).h.e.length kv0.ec, .int .u8 (tget t.ks 0).h.ty.h.k, .int .i64 (tget t.ks 0).h.ty.h.r, .slice kv0.tea (tget t.ks 0).h.ty.h.e.length kv0.tec, .slice kv0.tka (tget t.ks 0).h.ty.ks.length kv0.tkc, .int .u8 (tget t.ks 0).h.re.h.k, .int .i64 (tget t.ks 0).h.re.h.r, .slice kv0.sea (tget t.ks 0).h.re.h.e.length kv0.sec, .slice kv0.ska (tget t.ks 0).h.re.ks.length kv0.skc, .slice kv0.ka (tget t.ks 0).ks.length kv0.kc]) rfl (by kernel_rfl) (fun _ _ _ h => h) (by rfl) ?_ (by assumption) ?_
 ·intro w' hSw
  exact exec_at _ rfl b (o) rfl (HR0.out w' hSw.2)
 refine tk (i := 5) (v := .pointer (some ⟨w.heap.size, 0, none⟩)) rfl (by kernel_rfl) (fun _ _ _ h => h) (by rfl) ?_ (by assumption) ?_
 ·intro w' hSw
  first | (go_simp; done) | rfl
 try simp only [Act.put, getElem_toArray, getElem_cons_succ, getElem_cons_zero, setIfInBounds_toArray, set_cons_zero, set_cons_succ]
 refine tk (i := 6) (v := .pointer (some ⟨w.heap.size, 5, none⟩)) rfl (by kernel_rfl) (fun _ _ _ h => h) (by rfl) ?_ (by assumption) ?_
 ·intro w' hSw
  first | (go_simp; done) | rfl
 refine tk (i := 7) (v := .string h.h.arg) rfl (by kernel_rfl) (fun _ _ _ h => h) (by rfl) ?_ (by assumption) ?_
 ·intro w' hSw
  obtain ⟨-, -, -, -, -, b5, -, -, -, -, -, -, -, -, -, -, -, -, -⟩ := HX.out.box w' hSw.1
  first | (go_simp; done) | rfl
 try simp only [Act.put, getElem_toArray, getElem_cons_succ, getElem_cons_zero, setIfInBounds_toArray, set_cons_zero, set_cons_succ]
 refine tk (i := 8) (v := .pointer (some ⟨w.heap.size, 10, none⟩)) rfl (by kernel_rfl) (fun _ _ _ h => h) (by rfl) ?_ (by assumption) ?_
 ·intro w' hSw
  first | (go_simp; done) | rfl
 refine tk (i := 9) (v := .agg #[.int .u8 h.ty.h.k, .int .i64 h.ty.h.r, .slice v.tea h.ty.h.e.length v.tec, .slice v.tka h.ty.ks.length v.tkc]) rfl (by kernel_rfl) (fun _ _ _ h => h) (by rfl) ?_ (by assumption) ?_
 ·intro w' hSw
  exact exec_rt _ rfl w.heap.size 10 rfl (HX.out.ty hSw.1)
 try simp only [Act.put, getElem_toArray, getElem_cons_succ, getElem_cons_zero, setIfInBounds_toArray, set_cons_zero, set_cons_succ]
 refine tk (i := 11) (v := .pointer (some ⟨w.heap.size, 9, none⟩)) rfl (by kernel_rfl) (fun _ _ _ h => h) (by rfl) ?_ (by assumption) ?_
 ·intro w' hSw
  first | (go_simp; done) | rfl
 refine tk (i := 12) (v := .slice v.ea h.e.length v.ec) rfl (by kernel_rfl) (fun _ _ _ h => h) (by rfl) ?_ (by assumption) ?_
 ·intro w' hSw
  obtain ⟨-, -, -, -, -, -, -, -, -, b9, -, -, -, -, -, -, -, -, -⟩ := HX.out.box w' hSw.1
  first | (go_simp; done) | rfl
 try simp only [Act.put, getElem_toArray, getElem_cons_succ, getElem_cons_zero, setIfInBounds_toArray, set_cons_zero, set_cons_succ]
 refine wpAnyH_ready (rs := [10]) (by kernel_rfl) (by simp) ?_
 refine AllReadyH.cons rfl (fun K hK => ?_) AllReadyH.nil
 have HK2 := Lib.hid hK
 clear hK
 try rw [if_pos (by rfl)]
 go_simp
 refine (Hd0ty.out y0 HI0.out).mono ?_
 rintro e z0_0 ⟨rfl, g⟩
 have HZ0_0 := Lib.hid (HI0.out.quiet g)
 clear g
 refine HK2.out _ _ ⟨HZ0_0.out.2.2, HL.out _ _ HZ0_0.out⟩ (fun hHeld => ?_)
 clear HK2
 try simp only [Act.put, getElem_toArray, getElem_cons_succ, getElem_cons_zero, setIfInBounds_toArray, set_cons_zero, set_cons_succ]
 clear K
 refine wpAnyH_ready (rs := [13]) (by kernel_rfl) (by simp) ?_
 refine AllReadyH.cons rfl (fun K hK => ?_) AllReadyH.nil
 have HK2 := Lib.hid hK
 clear hK
 try rw [if_pos (by rfl)]
 go_simp
 refine (Hd0ef.out z0_0 HZ0_0.out).mono ?_
 rintro e z0_1 ⟨rfl, g⟩
 have HZ0_1 := Lib.hid (HZ0_0.out.quiet g)
 clear g
 refine HK2.out _ _ ⟨HZ0_1.out.2.2, HL.out _ _ HZ0_1.out⟩ (fun hHeld => ?_)
 clear HK2
 try simp only [Act.put, getElem_toArray, getElem_cons_succ, getElem_cons_zero, setIfInBounds_toArray, set_cons_zero, set_cons_succ]
 clear K
 refine wpAnyH_ready (rs := [14]) (by kernel_rfl) (by simp) ?_
 refine AllReadyH.cons rfl (fun K hK => ?_) AllReadyH.nil
 have HK2 := Lib.hid hK
 clear hK
 try rw [if_pos (by rfl)]
 go_simp
 refine HK2.out _ _ ⟨(HZ0_1.out.alloc (.cells #[.string ⟨#[102, 110]⟩, .string (h.h.arg), .string ⟨#[58]⟩, .string (tyT h.ty), .string ⟨#[33]⟩, .string (efT h.e), .string ⟨#[61, 62]⟩] 9)).2.2, HL.out _ _ (HZ0_1.out.alloc _)⟩ (fun hHeld => ?_)
 clear HK2
 try simp only [Act.put, getElem_toArray, getElem_cons_succ, getElem_cons_zero, setIfInBounds_toArray, set_cons_zero, set_cons_succ]
 clear K
 refine wpAnyH_ready (rs := [15]) (by kernel_rfl) (by simp) ?_
 refine AllReadyH.cons rfl (fun K hK => ?_) AllReadyH.nil
 have HK2 := Lib.hid hK
 clear hK
 try rw [if_pos (by rfl)]
 go_simp
 refine (Hp0.out z0_1 _ rfl HZ0_1.out).mono ?_
 rintro e w1 ⟨rfl, h0⟩
 have HS1 := Lib.hid h0
 clear h0
 refine HK2.out _ _ ⟨HS1.out.2.2, HL.out _ _ HS1.out⟩ (fun hHeld => ?_)
 clear HK2
 try simp only [Act.put, getElem_toArray, getElem_cons_succ, getElem_cons_zero, setIfInBounds_toArray, set_cons_zero, set_cons_succ]
 clear K
 refine wpAnyH_done (by kernel_rfl) ?_ _
 clear hHeld
 obtain ⟨-, -, -, -, -, -, -, b7, -, -, -, -, -, -, -, -, -, -, -⟩ := HX.out.box w1 HS1.out.2.2
 go_wp2_with (fail)
 refine (Hp1.out w1 HS1.out).mono ?_
 rintro e w2 ⟨rfl, h1⟩
 have HS2 := Lib.hid h1
 clear h1 b7
 go_wp2_with (fail)
 go_end0
 exact HS2.out.end_.cast ES.out
end Disp
end Go.Proofs.YtkfkpjngiffamaaGreatDoor
