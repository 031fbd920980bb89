import Derived.Test.YtkfkpjngiffamaaGreatDoorGC16
import Derived.Test.YtkfkpjngiffamaaGreatDoorGC17
namespace Go.Proofs.YtkfkpjngiffamaaGreatDoor
open Go.RowKit
set_option linter.unusedVariables false
set_option linter.unusedSimpArgs false
namespace Disp
open Effect (At AtOk AtsAt Rd RdI ofA ret_i64 ret_bool lt_of_block heap_alloc_new own_slice digs NumLaid textE)
open Aterm (AT Hd V AtIs HdIs Kids acells tget wt wts nodeB allT allK smallB Box box_of at_load exec_at range_below of_world atInfo)
open Rt (box_new below_then kw wAt wBang)
open Types (jb wInt wOpen wShut wStar wRef wArrow)
set_option maxRecDepth 10000 in
set_option maxHeartbeats 6400000 in
theorem within_3 (w0 : World) (N m : Nat) (hN0 : w0.heap.size ≤ N) (hnl : NumLaid w0) (hT : TermOf w0 N m) (t : AT) (h : Hd) (v : V) (l : Nat) (ss : List ByteArray) (w : World) (hm : wt t ≤ m + 1) (hok : allT nodeB t = true) (hsm : allT smallB t = true) (hI : AtIs w0 h v l t) (hb : Below w0.heap.size w0 w) (hW : WAt N ss w) (hz : ss.length + 80 * wt t ≤ 1000001) (hk : h.h.k = 3) :
  Calls Tryz.prog 48 #[.pointer (some ⟨N, 0, none⟩), .agg #[.int .u8 h.h.k, .int .u8 h.h.op, .int .i64 h.h.pl, .int .i64 h.h.n, .string h.h.name, .string h.h.arg, .string h.h.exn, .int .i64 h.rho, .slice v.ra h.rhos.length v.rc, .slice v.ea h.e.length v.ec, .int .u8 h.ty.h.k, .int .i64 h.ty.h.r, .slice v.tea h.ty.h.e.length v.tec, .slice v.tka h.ty.ks.length v.tkc, .int .u8 h.re.h.k, .int .i64 h.re.h.r, .slice v.sea h.re.h.e.length v.sec, .slice v.ska h.re.ks.length v.skc, .slice v.ka l v.kc]] w (WEnd N (ss ++ inW h (partsK t.ks)) w) := by
 have hNl := hW.lt
 have hlen := hI.len
 have hkk := kinds hok
 rw [hI.head] at hkk
 obtain rfl : l = 2 := by omega
 have hcap := hI.cap
 have hww := wt2 hlen
 obtain ⟨b, o, hka, hkd⟩ := kid_at hI (by omega)
 have ok0 := kid_all hok (i := 0) (by omega)
 have sm0 := kid_all hsm (i := 0) (by omega)
 have wl0 := parts_le ok0 sm0
 have kg0 := kw_get (show 0 < t.ks.length by omega)
 have ok1 := kid_all hok (i := 1) (by omega)
 have sm1 := kid_all hsm (i := 1) (by omega)
 have wl1 := parts_le ok1 sm1
 have kg1 := kw_get (show 1 < t.ks.length by omega)
 have hwp := Aterm.wt_pos t
 have hsh : smallB h (0 : Nat) = true := by
  have := top_all hsm
  rw [hI.head] at this
  exact this
 have hlg := Aterm.long_no (h := h) (by unfold smallB at hsh; simpa using hsh)
 have htm := ty_may (top_all hok)
 rw [hI.head] at htm
 have es : ss ++ (partsT (tget t.ks 0) ++ ([wComma] ++ partsT (tget t.ks 1))) ++ atW h.rho = ss ++ inW h (partsK t.ks) := by
  unfold inW
  simp [hk, kg0, kg1]
 obtain ⟨O, hx, hst⟩ := st_start h v 2 hW
 have p0 := two_n w0 N m hN0 hT hb hx hNl t hm hok hsm hI wComma (ss) (by omega)
 have p1 := at_n w0 N hN0 hnl hb hx hNl h.rho hI.ok.rho (ss ++ (partsT (tget t.ks 0) ++ ([wComma] ++ partsT (tget t.ks 1)))) (by (try simp only [List.length_append, List.length_cons, List.length_nil, atW]); omega)
 have hlow := fun W ss' (hSt : St N w w.heap.size O ss' W) => hSt.low hb hN0
 have Hp0 := Lib.hid p0; have Hp1 := Lib.hid p1; have HL := Lib.hid hlow; have HX := Lib.hid hx; have HN := Lib.hid hNl; have ES := Lib.hid es; have HKA := Lib.hid hka
 have hcq := hcap.1
 have hcl : v.kc ≤ 9223372036854775807 := hcap.2
 have q3 : (h.h.k == 3) = true := by rw [hk]; rfl
 have q4 : (h.h.k == 4) = false := by rw [hk]; rfl
 have q5 : (h.h.k == 5) = false := by rw [hk]; rfl
 have q6 : (h.h.k == 6) = false := by rw [hk]; rfl
 have q7 : (h.h.k == 7) = false := by rw [hk]; rfl
 have q8 : (h.h.k == 8) = false := by rw [hk]; rfl
 have q9 : (h.h.k == 9) = false := by rw [hk]; rfl
 have q10 : (h.h.k == 10) = false := by rw [hk]; rfl
 have q14 : (h.h.k == 14) = false := by rw [hk]; rfl
 have hst2 := hst
 clear p0 p1 hlow hx hNl es hka hst hW hz hm hok hsm hI hb hN0 hT hnl hlen hkk hcap hwp hsh hlg htm hww hkd ok0 sm0 wl0 kg0 ok1 sm1 wl1 kg1
 clear hk
 go_enter Tryz.func48, Tryz.ntmps48
 go_upto_region 1 with (fail)
 refine of_world (F := fun V => St N w w.heap.size O ss V) hst2 ?_
 intro W0 hst0
 have HS0 := Lib.hid hst0
 clear hst2 hst0
 obtain ⟨b0, -, -, -, -, -, -, -, -, -, -, -, -, -, -, -, -, -, -⟩ := HX.out.box W0 HS0.out.2.2
 have HRG := Lib.hid (HX.out.rng HS0.out.2.2)
 go_wp2_with (refine at_load rfl _ rfl w.heap.size 0 rfl HRG.out ?_)
 refine (Hp0.out W0 HS0.out).mono ?_
 rintro e w1 ⟨rfl, h0⟩
 have HS1 := Lib.hid h0
 clear h0 HRG b0
 obtain ⟨-, -, -, -, -, -, -, b7, -, -, -, -, -, -, -, -, -, -, -⟩ := HX.out.box w1 HS1.out.2.2
 go_wp2_with (fail)
 refine (Hp1.out w1 HS1.out).mono ?_
 rintro e w2 ⟨rfl, h1⟩
 have HS2 := Lib.hid h1
 clear h1 b7
 go_wp2_with (fail)
 go_end0
 exact HS2.out.end_.cast ES.out
set_option maxRecDepth 10000 in
set_option maxHeartbeats 6400000 in
theorem within_4 (w0 : World) (N m : Nat) (hN0 : w0.heap.size ≤ N) (hnl : NumLaid w0) (hT : TermOf w0 N m) (t : AT) (h : Hd) (v : V) (l : Nat) (ss : List ByteArray) (w : World) (hm : wt t ≤ m + 1) (hok : allT nodeB t = true) (hsm : allT smallB t = true) (hI : AtIs w0 h v l t) (hb : Below w0.heap.size w0 w) (hW : WAt N ss w) (hz : ss.length + 80 * wt t ≤ 1000001) (hk : h.h.k = 4) :
  Calls Tryz.prog 48 #[.pointer (some ⟨N, 0, none⟩), .agg #[.int .u8 h.h.k, .int .u8 h.h.op, .int .i64 h.h.pl, .int .i64 h.h.n, .string h.h.name, .string h.h.arg, .string h.h.exn, .int .i64 h.rho, .slice v.ra h.rhos.length v.rc, .slice v.ea h.e.length v.ec, .int .u8 h.ty.h.k, .int .i64 h.ty.h.r, .slice v.tea h.ty.h.e.length v.tec, .slice v.tka h.ty.ks.length v.tkc, .int .u8 h.re.h.k, .int .i64 h.re.h.r, .slice v.sea h.re.h.e.length v.sec, .slice v.ska h.re.ks.length v.skc, .slice v.ka l v.kc]] w (WEnd N (ss ++ inW h (partsK t.ks)) w) := by
 have hNl := hW.lt
 have hlen := hI.len
 have hkk := kinds hok
 rw [hI.head] at hkk
 obtain rfl : l = 1 := by omega
 have hcap := hI.cap
 have hww := wt1 hlen
 obtain ⟨b, o, hka, hkd⟩ := kid_at hI (by omega)
 have ok0 := kid_all hok (i := 0) (by omega)
 have sm0 := kid_all hsm (i := 0) (by omega)
 have wl0 := parts_le ok0 sm0
 have kg0 := kw_get (show 0 < t.ks.length by omega)
 obtain ⟨kv0, hI0, hr0⟩ := hkd 0 (by omega)
 rw [show o + 0 * 19 = o from by omega] at hr0
 have hwp := Aterm.wt_pos t
 have hsh : smallB h (0 : Nat) = true := by
  have := top_all hsm
  rw [hI.head] at this
  exact this
 have hlg := Aterm.long_no (h := h) (by unfold smallB at hsh; simpa using hsh)
 have htm := ty_may (top_all hok)
 rw [hI.head] at htm
 have es : ss ++ ([wFst] ++ partsT (tget t.ks 0)) = ss ++ inW h (partsK t.ks) := by
  unfold inW
  simp [hk, kg0]
 obtain ⟨O, hx, hst⟩ := st_start h v 1 hW
 have p0 := kid_n w0 N m hN0 hT hb hx hNl (tget t.ks 0) kv0 (by omega) ok0 sm0 hI0 [wFst] 1 (ss) rfl (by (try simp only [List.length_append, List.length_cons, List.length_nil, atW]); omega)
 have hlow := fun W ss' (hSt : St N w w.heap.size O ss' W) => hSt.low hb hN0
 have Hp0 := Lib.hid p0; have HL := Lib.hid hlow; have HX := Lib.hid hx; have HN := Lib.hid hNl; have ES := Lib.hid es; have HR0 := Lib.hid hr0; have HKA := Lib.hid hka
 have hcq := hcap.1
 have hcl : v.kc ≤ 9223372036854775807 := hcap.2
 have q3 : (h.h.k == 3) = false := by rw [hk]; rfl
 have q4 : (h.h.k == 4) = true := by rw [hk]; rfl
 have q5 : (h.h.k == 5) = false := by rw [hk]; rfl
 have q6 : (h.h.k == 6) = false := by rw [hk]; rfl
 have q7 : (h.h.k == 7) = false := by rw [hk]; rfl
 have q8 : (h.h.k == 8) = false := by rw [hk]; rfl
 have q9 : (h.h.k == 9) = false := by rw [hk]; rfl
 have q10 : (h.h.k == 10) = false := by rw [hk]; rfl
 have q14 : (h.h.k == 14) = false := by rw [hk]; rfl
 have hst2 := hst
 clear p0 hlow hx hNl es hr0 hka hst hW hz hm hok hsm hI hb hN0 hT hnl hlen hkk hcap hwp hsh hlg htm hww hkd hI0 ok0 sm0 wl0 kg0
 clear hk
 go_enter Tryz.func48, Tryz.ntmps48
 go_upto_region 1 with (fail)
 refine of_world (F := fun V => St N w w.heap.size O ss V) hst2 ?_
 intro W0 hst0
 have HS0 := Lib.hid hst0
 clear hst2 hst0
 obtain ⟨b0, -, -, -, -, -, -, -, -, -, -, -, -, -, -, -, -, -, b18⟩ := HX.out.box W0 HS0.out.2.2
 rw [HKA.out] at b18
 have HK := Lib.hid (HR0.out W0 (HL.out W0 _ HS0.out))
 go_wp2_with (refine at_load rfl _ rfl b (o) rfl HK.out ?_)
 refine (Hp0.out W0 _ rfl HS0.out).mono ?_
 rintro e w1 ⟨rfl, h0⟩
 have HS1 := Lib.hid h0
 clear h0 b0 b18 HK
 go_wp2_with (fail)
 go_end0
 exact HS1.out.end_.cast ES.out
set_option maxRecDepth 10000 in
set_option maxHeartbeats 6400000 in
theorem within_5 (w0 : World) (N m : Nat) (hN0 : w0.heap.size ≤ N) (hnl : NumLaid w0) (hT : TermOf w0 N m) (t : AT) (h : Hd) (v : V) (l : Nat) (ss : List ByteArray) (w : World) (hm : wt t ≤ m + 1) (hok : allT nodeB t = true) (hsm : allT smallB t = true) (hI : AtIs w0 h v l t) (hb : Below w0.heap.size w0 w) (hW : WAt N ss w) (hz : ss.length + 80 * wt t ≤ 1000001) (hk : h.h.k = 5) :
  Calls Tryz.prog 48 #[.pointer (some ⟨N, 0, none⟩), .agg #[.int .u8 h.h.k, .int .u8 h.h.op, .int .i64 h.h.pl, .int .i64 h.h.n, .string h.h.name, .string h.h.arg, .string h.h.exn, .int .i64 h.rho, .slice v.ra h.rhos.length v.rc, .slice v.ea h.e.length v.ec, .int .u8 h.ty.h.k, .int .i64 h.ty.h.r, .slice v.tea h.ty.h.e.length v.tec, .slice v.tka h.ty.ks.length v.tkc, .int .u8 h.re.h.k, .int .i64 h.re.h.r, .slice v.sea h.re.h.e.length v.sec, .slice v.ska h.re.ks.length v.skc, .slice v.ka l v.kc]] w (WEnd N (ss ++ inW h (partsK t.ks)) w) := by
 have hNl := hW.lt
 have hlen := hI.len
 have hkk := kinds hok
 rw [hI.head] at hkk
 obtain rfl : l = 1 := by omega
 have hcap := hI.cap
 have hww := wt1 hlen
 obtain ⟨b, o, hka, hkd⟩ := kid_at hI (by omega)
 have ok0 := kid_all hok (i := 0) (by omega)
 have sm0 := kid_all hsm (i := 0) (by omega)
 have wl0 := parts_le ok0 sm0
 have kg0 := kw_get (show 0 < t.ks.length by omega)
 obtain ⟨kv0, hI0, hr0⟩ := hkd 0 (by omega)
 rw [show o + 0 * 19 = o from by omega] at hr0
 have hwp := Aterm.wt_pos t
 have hsh : smallB h (0 : Nat) = true := by
  have := top_all hsm
  rw [hI.head] at this
  exact this
 have hlg := Aterm.long_no (h := h) (by unfold smallB at hsh; simpa using hsh)
 have htm := ty_may (top_all hok)
 rw [hI.head] at htm
 have es : ss ++ ([wSnd] ++ partsT (tget t.ks 0)) = ss ++ inW h (partsK t.ks) := by
  unfold inW
  simp [hk, kg0]
 obtain ⟨O, hx, hst⟩ := st_start h v 1 hW
 have p0 := kid_n w0 N m hN0 hT hb hx hNl (tget t.ks 0) kv0 (by omega) ok0 sm0 hI0 [wSnd] 1 (ss) rfl (by (try simp only [List.length_append, List.length_cons, List.length_nil, atW]); omega)
 have hlow := fun W ss' (hSt : St N w w.heap.size O ss' W) => hSt.low hb hN0
 have Hp0 := Lib.hid p0; have HL := Lib.hid hlow; have HX := Lib.hid hx; have HN := Lib.hid hNl; have ES := Lib.hid es; have HR0 := Lib.hid hr0; have HKA := Lib.hid hka
 have hcq := hcap.1
 have hcl : v.kc ≤ 9223372036854775807 := hcap.2
 have q3 : (h.h.k == 3) = false := by rw [hk]; rfl
 have q4 : (h.h.k == 4) = false := by rw [hk]; rfl
 have q5 : (h.h.k == 5) = true := by rw [hk]; rfl
 have q6 : (h.h.k == 6) = false := by rw [hk]; rfl
 have q7 : (h.h.k == 7) = false := by rw [hk]; rfl
 have q8 : (h.h.k == 8) = false := by rw [hk]; rfl
 have q9 : (h.h.k == 9) = false := by rw [hk]; rfl
 have q10 : (h.h.k == 10) = false := by rw [hk]; rfl
 have q14 : (h.h.k == 14) = false := by rw [hk]; rfl
 have hst2 := hst
 clear p0 hlow hx hNl es hr0 hka hst hW hz hm hok hsm hI hb hN0 hT hnl hlen hkk hcap hwp hsh hlg htm hww hkd hI0 ok0 sm0 wl0 kg0
 clear hk
 go_enter Tryz.func48, Tryz.ntmps48
 go_upto_region 1 with (fail)
 refine of_world (F := fun V => St N w w.heap.size O ss V) hst2 ?_
 intro W0 hst0
 have HS0 := Lib.hid hst0
 clear hst2 hst0
 obtain ⟨b0, -, -, -, -, -, -, -, -, -, -, -, -, -, -, -, -, -, b18⟩ := HX.out.box W0 HS0.out.2.2
 rw [HKA.out] at b18
 have HK := Lib.hid (HR0.out W0 (HL.out W0 _ HS0.out))
 go_wp2_with (refine at_load rfl _ rfl b (o) rfl HK.out ?_)
 refine (Hp0.out W0 _ rfl HS0.out).mono ?_
 rintro e w1 ⟨rfl, h0⟩
 have HS1 := Lib.hid h0
 clear h0 b0 b18 HK
 go_wp2_with (fail)
 go_end0
 exact HS1.out.end_.cast ES.out
set_option maxRecDepth 10000 in
set_option maxHeartbeats 6400000 in
theorem within_6 (w0 : World) (N m : Nat) (hN0 : w0.heap.size ≤ N) (hnl : NumLaid w0) (hT : TermOf w0 N m) (t : AT) (h : Hd) (v : V) (l : Nat) (ss : List ByteArray) (w : World) (hm : wt t ≤ m + 1) (hok : allT nodeB t = true) (hsm : allT smallB t = true) (hI : AtIs w0 h v l t) (hb : Below w0.heap.size w0 w) (hW : WAt N ss w) (hz : ss.length + 80 * wt t ≤ 1000001) (hk : h.h.k = 6) :
  Calls Tryz.prog 48 #[.pointer (some ⟨N, 0, none⟩), .agg #[.int .u8 h.h.k, .int .u8 h.h.op, .int .i64 h.h.pl, .int .i64 h.h.n, .string h.h.name, .string h.h.arg, .string h.h.exn, .int .i64 h.rho, .slice v.ra h.rhos.length v.rc, .slice v.ea h.e.length v.ec, .int .u8 h.ty.h.k, .int .i64 h.ty.h.r, .slice v.tea h.ty.h.e.length v.tec, .slice v.tka h.ty.ks.length v.tkc, .int .u8 h.re.h.k, .int .i64 h.re.h.r, .slice v.sea h.re.h.e.length v.sec, .slice v.ska h.re.ks.length v.skc, .slice v.ka l v.kc]] w (WEnd N (ss ++ inW h (partsK t.ks)) w) := by
 have hNl := hW.lt
 have hlen := hI.len
 have hkk := kinds hok
 rw [hI.head] at hkk
 obtain rfl : l = 1 := by omega
 have hcap := hI.cap
 have hww := wt1 hlen
 obtain ⟨b, o, hka, hkd⟩ := kid_at hI (by omega)
 have ok0 := kid_all hok (i := 0) (by omega)
 have sm0 := kid_all hsm (i := 0) (by omega)
 have wl0 := parts_le ok0 sm0
 have kg0 := kw_get (show 0 < t.ks.length by omega)
 obtain ⟨kv0, hI0, hr0⟩ := hkd 0 (by omega)
 rw [show o + 0 * 19 = o from by omega] at hr0
 have hwp := Aterm.wt_pos t
 have hsh : smallB h (0 : Nat) = true := by
  have := top_all hsm
  rw [hI.head] at this
  exact this
 have hlg := Aterm.long_no (h := h) (by unfold smallB at hsh; simpa using hsh)
 have htm := ty_may (top_all hok)
 rw [hI.head] at htm
 have es : ss ++ ([wRef] ++ partsT (tget t.ks 0)) ++ atW h.rho = ss ++ inW h (partsK t.ks) := by
  unfold inW
  simp [hk, kg0]
 obtain ⟨O, hx, hst⟩ := st_start h v 1 hW
 have p0 := kid_n w0 N m hN0 hT hb hx hNl (tget t.ks 0) kv0 (by omega) ok0 sm0 hI0 [wRef] 1 (ss) rfl (by (try simp only [List.length_append, List.length_cons, List.length_nil, atW]); omega)
 have p1 := at_n w0 N hN0 hnl hb hx hNl h.rho hI.ok.rho (ss ++ ([wRef] ++ partsT (tget t.ks 0))) (by (try simp only [List.length_append, List.length_cons, List.length_nil, atW]); omega)
 have hlow := fun W ss' (hSt : St N w w.heap.size O ss' W) => hSt.low hb hN0
 have Hp0 := Lib.hid p0; have Hp1 := Lib.hid p1; have HL := Lib.hid hlow; have HX := Lib.hid hx; have HN := Lib.hid hNl; have ES := Lib.hid es; have HR0 := Lib.hid hr0; have HKA := Lib.hid hka
 have hcq := hcap.1
 have hcl : v.kc ≤ 9223372036854775807 := hcap.2
 have q3 : (h.h.k == 3) = false := by rw [hk]; rfl
 have q4 : (h.h.k == 4) = false := by rw [hk]; rfl
 have q5 : (h.h.k == 5) = false := by rw [hk]; rfl
 have q6 : (h.h.k == 6) = true := by rw [hk]; rfl
 have q7 : (h.h.k == 7) = false := by rw [hk]; rfl
 have q8 : (h.h.k == 8) = false := by rw [hk]; rfl
 have q9 : (h.h.k == 9) = false := by rw [hk]; rfl
 have q10 : (h.h.k == 10) = false := by rw [hk]; rfl
 have q14 : (h.h.k == 14) = false := by rw [hk]; rfl
 have hst2 := hst
 clear p0 p1 hlow hx hNl es hr0 hka hst hW hz hm hok hsm hI hb hN0 hT hnl hlen hkk hcap hwp hsh hlg htm hww hkd hI0 ok0 sm0 wl0 kg0
 clear hk
 go_enter Tryz.func48, Tryz.ntmps48
 go_upto_region 1 with (fail)
 refine of_world (F := fun V => St N w w.heap.size O ss V) hst2 ?_
 intro W0 hst0
 have HS0 := Lib.hid hst0
 clear hst2 hst0
 obtain ⟨b0, -, -, -, -, -, -, -, -, -, -, -, -, -, -, -, -, -, b18⟩ := HX.out.box W0 HS0.out.2.2
 rw [HKA.out] at b18
 have HK := Lib.hid (HR0.out W0 (HL.out W0 _ HS0.out))
 go_wp2_with (refine at_load rfl _ rfl b (o) rfl HK.out ?_)
 refine (Hp0.out W0 _ rfl HS0.out).mono ?_
 rintro e w1 ⟨rfl, h0⟩
 have HS1 := Lib.hid h0
 clear h0 b0 b18 HK
 obtain ⟨-, -, -, -, -, -, -, b7, -, -, -, -, -, -, -, -, -, -, -⟩ := HX.out.box w1 HS1.out.2.2
 go_wp2_with (fail)
 refine (Hp1.out w1 HS1.out).mono ?_
 rintro e w2 ⟨rfl, h1⟩
 have HS2 := Lib.hid h1
 clear h1 b7
 go_wp2_with (fail)
 go_end0
 exact HS2.out.end_.cast ES.out
set_option maxRecDepth 10000 in
set_option maxHeartbeats 6400000 in
theorem within_7 (w0 : World) (N m : Nat) (hN0 : w0.heap.size ≤ N) (hnl : NumLaid w0) (hT : TermOf w0 N m) (t : AT) (h : Hd) (v : V) (l : Nat) (ss : List ByteArray) (w : World) (hm : wt t ≤ m + 1) (hok : allT nodeB t = true) (hsm : allT smallB t = true) (hI : AtIs w0 h v l t) (hb : Below w0.heap.size w0 w) (hW : WAt N ss w) (hz : ss.length + 80 * wt t ≤ 1000001) (hk : h.h.k = 7) :
  Calls Tryz.prog 48 #[.pointer (some ⟨N, 0, none⟩), .agg #[.int .u8 h.h.k, .int .u8 h.h.op, .int .i64 h.h.pl, .int .i64 h.h.n, .string h.h.name, .string h.h.arg, .string h.h.exn, .int .i64 h.rho, .slice v.ra h.rhos.length v.rc, .slice v.ea h.e.length v.ec, .int .u8 h.ty.h.k, .int .i64 h.ty.h.r, .slice v.tea h.ty.h.e.length v.tec, .slice v.tka h.ty.ks.length v.tkc, .int .u8 h.re.h.k, .int .i64 h.re.h.r, .slice v.sea h.re.h.e.length v.sec, .slice v.ska h.re.ks.length v.skc, .slice v.ka l v.kc]] w (WEnd N (ss ++ inW h (partsK t.ks)) w) := by
 have hNl := hW.lt
 have hlen := hI.len
 have hkk := kinds hok
 rw [hI.head] at hkk
 obtain rfl : l = 1 := by omega
 have hcap := hI.cap
 have hww := wt1 hlen
 obtain ⟨b, o, hka, hkd⟩ := kid_at hI (by omega)
 have ok0 := kid_all hok (i := 0) (by omega)
 have sm0 := kid_all hsm (i := 0) (by omega)
 have wl0 := parts_le ok0 sm0
 have kg0 := kw_get (show 0 < t.ks.length by omega)
 obtain ⟨kv0, hI0, hr0⟩ := hkd 0 (by omega)
 rw [show o + 0 * 19 = o from by omega] at hr0
 have hwp := Aterm.wt_pos t
 have hsh : smallB h (0 : Nat) = true := by
  have := top_all hsm
  rw [hI.head] at this
  exact this
 have hlg := Aterm.long_no (h := h) (by unfold smallB at hsh; simpa using hsh)
 have htm := ty_may (top_all hok)
 rw [hI.head] at htm
 have es : ss ++ ([wBang] ++ partsT (tget t.ks 0)) = ss ++ inW h (partsK t.ks) := by
  unfold inW
  simp [hk, kg0]
 obtain ⟨O, hx, hst⟩ := st_start h v 1 hW
 have p0 := kid_n w0 N m hN0 hT hb hx hNl (tget t.ks 0) kv0 (by omega) ok0 sm0 hI0 [wBang] 1 (ss) rfl (by (try simp only [List.length_append, List.length_cons, List.length_nil, atW]); omega)
 have hlow := fun W ss' (hSt : St N w w.heap.size O ss' W) => hSt.low hb hN0
 have Hp0 := Lib.hid p0; have HL := Lib.hid hlow; have HX := Lib.hid hx; have HN := Lib.hid hNl; have ES := Lib.hid es; have HR0 := Lib.hid hr0; have HKA := Lib.hid hka
 have hcq := hcap.1
 have hcl : v.kc ≤ 9223372036854775807 := hcap.2
 have q3 : (h.h.k == 3) = false := by rw [hk]; rfl
 have q4 : (h.h.k == 4) = false := by rw [hk]; rfl
 have q5 : (h.h.k == 5) = false := by rw [hk]; rfl
 have q6 : (h.h.k == 6) = false := by rw [hk]; rfl
 have q7 : (h.h.k == 7) = true := by rw [hk]; rfl
 have q8 : (h.h.k == 8) = false := by rw [hk]; rfl
 have q9 : (h.h.k == 9) = false := by rw [hk]; rfl
 have q10 : (h.h.k == 10) = false := by rw [hk]; rfl
 have q14 : (h.h.k == 14) = false := by rw [hk]; rfl
 have hst2 := hst
 clear p0 hlow hx hNl es hr0 hka hst hW hz hm hok hsm hI hb hN0 hT hnl hlen hkk hcap hwp hsh hlg htm hww hkd hI0 ok0 sm0 wl0 kg0
 clear hk
 go_enter Tryz.func48, Tryz.ntmps48
 go_upto_region 1 with (fail)
 refine of_world (F := fun V => St N w w.heap.size O ss V) hst2 ?_
 intro W0 hst0
 have HS0 := Lib.hid hst0
 clear hst2 hst0
 obtain ⟨b0, -, -, -, -, -, -, -, -, -, -, -, -, -, -, -, -, -, b18⟩ := HX.out.box W0 HS0.out.2.2
 rw [HKA.out] at b18
 have HK := Lib.hid (HR0.out W0 (HL.out W0 _ HS0.out))
 go_wp2_with (refine at_load rfl _ rfl b (o) rfl HK.out ?_)
 refine (Hp0.out W0 _ rfl HS0.out).mono ?_
 rintro e w1 ⟨rfl, h0⟩
 have HS1 := Lib.hid h0
 clear h0 b0 b18 HK
 go_wp2_with (fail)
 go_end0
 exact HS1.out.end_.cast ES.out
set_option maxRecDepth 10000 in
set_option maxHeartbeats 6400000 in
theorem within_8 (w0 : World) (N m : Nat) (hN0 : w0.heap.size ≤ N) (hnl : NumLaid w0) (hT : TermOf w0 N m) (t : AT) (h : Hd) (v : V) (l : Nat) (ss : List ByteArray) (w : World) (hm : wt t ≤ m + 1) (hok : allT nodeB t = true) (hsm : allT smallB t = true) (hI : AtIs w0 h v l t) (hb : Below w0.heap.size w0 w) (hW : WAt N ss w) (hz : ss.length + 80 * wt t ≤ 1000001) (hk : h.h.k = 8) :
  Calls Tryz.prog 48 #[.pointer (some ⟨N, 0, none⟩), .agg #[.int .u8 h.h.k, .int .u8 h.h.op, .int .i64 h.h.pl, .int .i64 h.h.n, .string h.h.name, .string h.h.arg, .string h.h.exn, .int .i64 h.rho, .slice v.ra h.rhos.length v.rc, .slice v.ea h.e.length v.ec, .int .u8 h.ty.h.k, .int .i64 h.ty.h.r, .slice v.tea h.ty.h.e.length v.tec, .slice v.tka h.ty.ks.length v.tkc, .int .u8 h.re.h.k, .int .i64 h.re.h.r, .slice v.sea h.re.h.e.length v.sec, .slice v.ska h.re.ks.length v.skc, .slice v.ka l v.kc]] w (WEnd N (ss ++ inW h (partsK t.ks)) w) := by
 have hNl := hW.lt
 have hlen := hI.len
 have hkk := kinds hok
 rw [hI.head] at hkk
 obtain rfl : l = 2 := by omega
 have hcap := hI.cap
 have hww := wt2 hlen
 obtain ⟨b, o, hka, hkd⟩ := kid_at hI (by omega)
 have ok0 := kid_all hok (i := 0) (by omega)
 have sm0 := kid_all hsm (i := 0) (by omega)
 have wl0 := parts_le ok0 sm0
 have kg0 := kw_get (show 0 < t.ks.length by omega)
 have ok1 := kid_all hok (i := 1) (by omega)
 have sm1 := kid_all hsm (i := 1) (by omega)
 have wl1 := parts_le ok1 sm1
 have kg1 := kw_get (show 1 < t.ks.length by omega)
 have hwp := Aterm.wt_pos t
 have hsh : smallB h (0 : Nat) = true := by
  have := top_all hsm
  rw [hI.head] at this
  exact this
 have hlg := Aterm.long_no (h := h) (by unfold smallB at hsh; simpa using hsh)
 have htm := ty_may (top_all hok)
 rw [hI.head] at htm
 have es : ss ++ (partsT (tget t.ks 0) ++ ([wPut] ++ partsT (tget t.ks 1))) = ss ++ inW h (partsK t.ks) := by
  unfold inW
  simp [hk, kg0, kg1]
 obtain ⟨O, hx, hst⟩ := st_start h v 2 hW
 have p0 := two_n w0 N m hN0 hT hb hx hNl t hm hok hsm hI wPut (ss) (by omega)
 have hlow := fun W ss' (hSt : St N w w.heap.size O ss' W) => hSt.low hb hN0
 have Hp0 := Lib.hid p0; have HL := Lib.hid hlow; have HX := Lib.hid hx; have HN := Lib.hid hNl; have ES := Lib.hid es; have HKA := Lib.hid hka
 have hcq := hcap.1
 have hcl : v.kc ≤ 9223372036854775807 := hcap.2
 have q3 : (h.h.k == 3) = false := by rw [hk]; rfl
 have q4 : (h.h.k == 4) = false := by rw [hk]; rfl
 have q5 : (h.h.k == 5) = false := by rw [hk]; rfl
 have q6 : (h.h.k == 6) = false := by rw [hk]; rfl
 have q7 : (h.h.k == 7) = false := by rw [hk]; rfl
 have q8 : (h.h.k == 8) = true := by rw [hk]; rfl
 have q9 : (h.h.k == 9) = false := by rw [hk]; rfl
 have q10 : (h.h.k == 10) = false := by rw [hk]; rfl
 have q14 : (h.h.k == 14) = false := by rw [hk]; rfl
 have hst2 := hst
 clear p0 hlow hx hNl es hka hst hW hz hm hok hsm hI hb hN0 hT hnl hlen hkk hcap hwp hsh hlg htm hww hkd ok0 sm0 wl0 kg0 ok1 sm1 wl1 kg1
 clear hk
 go_enter Tryz.func48, Tryz.ntmps48
 go_upto_region 1 with (fail)
 refine of_world (F := fun V => St N w w.heap.size O ss V) hst2 ?_
 intro W0 hst0
 have HS0 := Lib.hid hst0
 clear hst2 hst0
 obtain ⟨b0, -, -, -, -, -, -, -, -, -, -, -, -, -, -, -, -, -, -⟩ := HX.out.box W0 HS0.out.2.2
 have HRG := Lib.hid (HX.out.rng HS0.out.2.2)
 go_wp2_with (refine at_load rfl _ rfl w.heap.size 0 rfl HRG.out ?_)
 refine (Hp0.out W0 HS0.out).mono ?_
 rintro e w1 ⟨rfl, h0⟩
 have HS1 := Lib.hid h0
 clear h0 HRG b0
 go_wp2_with (fail)
 go_end0
 exact HS1.out.end_.cast ES.out
set_option maxRecDepth 10000 in
set_option maxHeartbeats 6400000 in
theorem within_10 (w0 : World) (N m : Nat) (hN0 : w0.heap.size ≤ N) (hnl : NumLaid w0) (hT : TermOf w0 N m) (t : AT) (h : Hd) (v : V) (l : Nat) (ss : List ByteArray) (w : World) (hm : wt t ≤ m + 1) (hok : allT nodeB t = true) (hsm : allT smallB t = true) (hI : AtIs w0 h v l t) (hb : Below w0.heap.size w0 w) (hW : WAt N ss w) (hz : ss.length + 80 * wt t ≤ 1000001) (hk : h.h.k = 10) :
  Calls Tryz.prog 48 #[.pointer (some ⟨N, 0, none⟩), .agg #[.int .u8 h.h.k, .int .u8 h.h.op, .int .i64 h.h.pl, .int .i64 h.h.n, .string h.h.name, .string h.h.arg, .string h.h.exn, .int .i64 h.rho, .slice v.ra h.rhos.length v.rc, .slice v.ea h.e.length v.ec, .int .u8 h.ty.h.k, .int .i64 h.ty.h.r, .slice v.tea h.ty.h.e.length v.tec, .slice v.tka h.ty.ks.length v.tkc, .int .u8 h.re.h.k, .int .i64 h.re.h.r, .slice v.sea h.re.h.e.length v.sec, .slice v.ska h.re.ks.length v.skc, .slice v.ka l v.kc]] w (WEnd N (ss ++ inW h (partsK t.ks)) w) := by
 have hNl := hW.lt
 have hlen := hI.len
 have hkk := kinds hok
 rw [hI.head] at hkk
 obtain rfl : l = 2 := by omega
 have hcap := hI.cap
 have hww := wt2 hlen
 obtain ⟨b, o, hka, hkd⟩ := kid_at hI (by omega)
 have ok0 := kid_all hok (i := 0) (by omega)
 have sm0 := kid_all hsm (i := 0) (by omega)
 have wl0 := parts_le ok0 sm0
 have kg0 := kw_get (show 0 < t.ks.length by omega)
 obtain ⟨kv0, hI0, hr0⟩ := hkd 0 (by omega)
 rw [show o + 0 * 19 = o from by omega] at hr0
 have ok1 := kid_all hok (i := 1) (by omega)
 have sm1 := kid_all hsm (i := 1) (by omega)
 have wl1 := parts_le ok1 sm1
 have kg1 := kw_get (show 1 < t.ks.length by omega)
 obtain ⟨kv1, hI1, hr1⟩ := hkd 1 (by omega)
 rw [show o + 1 * 19 = o + 19 from by omega] at hr1
 have hwp := Aterm.wt_pos t
 have hsh : smallB h (0 : Nat) = true := by
  have := top_all hsm
  rw [hI.head] at this
  exact this
 have hlg := Aterm.long_no (h := h) (by unfold smallB at hsh; simpa using hsh)
 have htm := ty_may (top_all hok)
 rw [hI.head] at htm
 have es : ss ++ partsT (tget t.ks 0) ++ partsT (tget t.ks 1) = ss ++ inW h (partsK t.ks) := by
  unfold inW
  simp [hk, kg0, kg1]
 obtain ⟨O, hx, hst⟩ := st_start h v 2 hW
 have p0 := term_n w0 N m hN0 hT hb hx hNl (tget t.ks 0) kv0 (by omega) ok0 sm0 hI0 (ss) (by (try simp only [List.length_append, List.length_cons, List.length_nil, atW]); omega)
 have p1 := term_n w0 N m hN0 hT hb hx hNl (tget t.ks 1) kv1 (by omega) ok1 sm1 hI1 (ss ++ partsT (tget t.ks 0)) (by (try simp only [List.length_append, List.length_cons, List.length_nil, atW]); omega)
 have hlow := fun W ss' (hSt : St N w w.heap.size O ss' W) => hSt.low hb hN0
 have Hp0 := Lib.hid p0; have Hp1 := Lib.hid p1; have HL := Lib.hid hlow; have HX := Lib.hid hx; have HN := Lib.hid hNl; have ES := Lib.hid es; have HR0 := Lib.hid hr0; have HR1 := Lib.hid hr1; have HKA := Lib.hid hka
 have hcq := hcap.1
 have hcl : v.kc ≤ 9223372036854775807 := hcap.2
 have q3 : (h.h.k == 3) = false := by rw [hk]; rfl
 have q4 : (h.h.k == 4) = false := by rw [hk]; rfl
 have q5 : (h.h.k == 5) = false := by rw [hk]; rfl
 have q6 : (h.h.k == 6) = false := by rw [hk]; rfl
 have q7 : (h.h.k == 7) = false := by rw [hk]; rfl
 have q8 : (h.h.k == 8) = false := by rw [hk]; rfl
 have q9 : (h.h.k == 9) = false := by rw [hk]; rfl
 have q10 : (h.h.k == 10) = true := by rw [hk]; rfl
 have q14 : (h.h.k == 14) = false := by rw [hk]; rfl
 have hst2 := hst
 clear p0 p1 hlow hx hNl es hr0 hr1 hka hst hW hz hm hok hsm hI hb hN0 hT hnl hlen hkk hcap hwp hsh hlg htm hww hkd hI0 hI1 ok0 sm0 wl0 kg0 ok1 sm1 wl1 kg1
 clear hk
 go_enter Tryz.func48, Tryz.ntmps48
 go_upto_region 1 with (fail)
 refine of_world (F := fun V => St N w w.heap.size O ss V) hst2 ?_
 intro W0 hst0
 have HS0 := Lib.hid hst0
 clear hst2 hst0
 obtain ⟨b0, -, -, -, -, -, -, -, -, -, -, -, -, -, -, -, -, -, b18⟩ := HX.out.box W0 HS0.out.2.2
 rw [HKA.out] at b18
 have HK := Lib.hid (HR0.out W0 (HL.out W0 _ HS0.out))
 go_wp2_with (refine at_load rfl _ rfl b (o) rfl HK.out ?_)
 refine (Hp0.out W0 HS0.out).mono ?_
 rintro e w1 ⟨rfl, h0⟩
 have HS1 := Lib.hid h0
 clear h0 b0 b18 HK
 obtain ⟨-, -, -, -, -, -, -, -, -, -, -, -, -, -, -, -, -, -, b18⟩ := HX.out.box w1 HS1.out.2.2
 rw [HKA.out] at b18
 have HK := Lib.hid (HR1.out w1 (HL.out w1 _ HS1.out))
 go_wp2_with (refine at_load rfl _ rfl b (o + 19) rfl HK.out ?_)
 refine (Hp1.out w1 HS1.out).mono ?_
 rintro e w2 ⟨rfl, h1⟩
 have HS2 := Lib.hid h1
 clear h1 b18 HK
 go_wp2_with (fail)
 go_end0
 exact HS2.out.end_.cast ES.out
set_option maxRecDepth 10000 in
set_option maxHeartbeats 6400000 in
theorem within_14 (w0 : World) (N m : Nat) (hN0 : w0.heap.size ≤ N) (hnl : NumLaid w0) (hT : TermOf w0 N m) (t : AT) (h : Hd) (v : V) (l : Nat) (ss : List ByteArray) (w : World) (hm : wt t ≤ m + 1) (hok : allT nodeB t = true) (hsm : allT smallB t = true) (hI : AtIs w0 h v l t) (hb : Below w0.heap.size w0 w) (hW : WAt N ss w) (hz : ss.length + 80 * wt t ≤ 1000001) (hk : h.h.k = 14) :
  Calls Tryz.prog 48 #[.pointer (some ⟨N, 0, none⟩), .agg #[.int .u8 h.h.k, .int .u8 h.h.op, .int .i64 h.h.pl, .int .i64 h.h.n, .string h.h.name, .string h.h.arg, .string h.h.exn, .int .i64 h.rho, .slice v.ra h.rhos.length v.rc, .slice v.ea h.e.length v.ec, .int .u8 h.ty.h.k, .int .i64 h.ty.h.r, .slice v.tea h.ty.h.e.length v.tec, .slice v.tka h.ty.ks.length v.tkc, .int .u8 h.re.h.k, .int .i64 h.re.h.r, .slice v.sea h.re.h.e.length v.sec, .slice v.ska h.re.ks.length v.skc, .slice v.ka l v.kc]] w (WEnd N (ss ++ inW h (partsK t.ks)) w) := by
 have hNl := hW.lt
 have hlen := hI.len
 have hkk := kinds hok
 rw [hI.head] at hkk
 obtain rfl : l = 3 := by omega
 have hcap := hI.cap
 have hww := wt3 hlen
 obtain ⟨b, o, hka, hkd⟩ := kid_at hI (by omega)
 have ok0 := kid_all hok (i := 0) (by omega)
 have sm0 := kid_all hsm (i := 0) (by omega)
 have wl0 := parts_le ok0 sm0
 have kg0 := kw_get (show 0 < t.ks.length by omega)
 obtain ⟨kv0, hI0, hr0⟩ := hkd 0 (by omega)
 rw [show o + 0 * 19 = o from by omega] at hr0
 have ok1 := kid_all hok (i := 1) (by omega)
 have sm1 := kid_all hsm (i := 1) (by omega)
 have wl1 := parts_le ok1 sm1
 have kg1 := kw_get (show 1 < t.ks.length by omega)
 obtain ⟨kv1, hI1, hr1⟩ := hkd 1 (by omega)
 rw [show o + 1 * 19 = o + 19 from by omega] at hr1
 have ok2 := kid_all hok (i := 2) (by omega)
 have sm2 := kid_all hsm (i := 2) (by omega)
 have wl2 := parts_le ok2 sm2
 have kg2 := kw_get (show 2 < t.ks.length by omega)
 obtain ⟨kv2, hI2, hr2⟩ := hkd 2 (by omega)
 rw [show o + 2 * 19 = o + 38 from by omega] at hr2
 have hwp := Aterm.wt_pos t
 have hsh : smallB h (0 : Nat) = true := by
  have := top_all hsm
  rw [hI.head] at this
  exact this
 have hlg := Aterm.long_no (h := h) (by unfold smallB at hsh; simpa using hsh)
 have htm := ty_may (top_all hok)
 rw [hI.head] at htm
 have es : ss ++ ([wIf] ++ partsT (tget t.ks 0)) ++ ([wThen] ++ partsT (tget t.ks 1)) ++ ([wElse] ++ partsT (tget t.ks 2)) = ss ++ inW h (partsK t.ks) := by
  unfold inW
  simp [hk, kg0, kg1, kg2]
 obtain ⟨O, hx, hst⟩ := st_start h v 3 hW
 have p0 := kid_n w0 N m hN0 hT hb hx hNl (tget t.ks 0) kv0 (by omega) ok0 sm0 hI0 [wIf] 1 (ss) rfl (by (try simp only [List.length_append, List.length_cons, List.length_nil, atW]); omega)
 have p1 := kid_n w0 N m hN0 hT hb hx hNl (tget t.ks 1) kv1 (by omega) ok1 sm1 hI1 [wThen] 1 (ss ++ ([wIf] ++ partsT (tget t.ks 0))) rfl (by (try simp only [List.length_append, List.length_cons, List.length_nil, atW]); omega)
 have p2 := kid_n w0 N m hN0 hT hb hx hNl (tget t.ks 2) kv2 (by omega) ok2 sm2 hI2 [wElse] 1 (ss ++ ([wIf] ++ partsT (tget t.ks 0)) ++ ([wThen] ++ partsT (tget t.ks 1))) rfl (by (try simp only [List.length_append, List.length_cons, List.length_nil, atW]); omega)
 have hlow := fun W ss' (hSt : St N w w.heap.size O ss' W) => hSt.low hb hN0
 have Hp0 := Lib.hid p0; have Hp1 := Lib.hid p1; have Hp2 := Lib.hid p2; have HL := Lib.hid hlow; have HX := Lib.hid hx; have HN := Lib.hid hNl; have ES := Lib.hid es; have HR0 := Lib.hid hr0; have HR1 := Lib.hid hr1; have HR2 := Lib.hid hr2; have HKA := Lib.hid hka
 have hcq := hcap.1
 have hcl : v.kc ≤ 9223372036854775807 := hcap.2
 have q3 : (h.h.k == 3) = false := by rw [hk]; rfl
 have q4 : (h.h.k == 4) = false := by rw [hk]; rfl
 have q5 : (h.h.k == 5) = false := by rw [hk]; rfl
 have q6 : (h.h.k == 6) = false := by rw [hk]; rfl
 have q7 : (h.h.k == 7) = false := by rw [hk]; rfl
 have q8 : (h.h.k == 8) = false := by rw [hk]; rfl
 have q9 : (h.h.k == 9) = false := by rw [hk]; rfl
 have q10 : (h.h.k == 10) = false := by rw [hk]; rfl
 have q14 : (h.h.k == 14) = true := by rw [hk]; rfl
 have hst2 := hst
 clear p0 p1 p2 hlow hx hNl es hr0 hr1 hr2 hka hst hW hz hm hok hsm hI hb hN0 hT hnl hlen hkk hcap hwp hsh hlg htm hww hkd hI0 hI1 hI2 ok0 sm0 wl0 kg0 ok1 sm1 wl1 kg1 ok2 sm2 wl2 kg2
 clear hk
 go_enter Tryz.func48, Tryz.ntmps48
 go_upto_region 1 with (fail)
 refine of_world (F := fun V => St N w w.heap.size O ss V) hst2 ?_
 intro W0 hst0
 have HS0 := Lib.hid hst0
 clear hst2 hst0
 obtain ⟨b0, -, -, -, -, -, -, -, -, -, -, -, -, -, -, -, -, -, b18⟩ := HX.out.box W0 HS0.out.2.2
 rw [HKA.out] at b18
 have HK := Lib.hid (HR0.out W0 (HL.out W0 _ HS0.out))
 go_wp2_with (refine at_load rfl _ rfl b (o) rfl HK.out ?_)
 refine (Hp0.out W0 _ rfl HS0.out).mono ?_
 rintro e w1 ⟨rfl, h0⟩
 have HS1 := Lib.hid h0
 clear h0 b0 b18 HK
 obtain ⟨-, -, -, -, -, -, -, -, -, -, -, -, -, -, -, -, -, -, b18⟩ := HX.out.box w1 HS1.out.2.2
 rw [HKA.out] at b18
 have HK := Lib.hid (HR1.out w1 (HL.out w1 _ HS1.out))
 go_wp2_with (refine at_load rfl _ rfl b (o + 19) rfl HK.out ?_)
 refine (Hp1.out w1 _ rfl HS1.out).mono ?_
 rintro e w2 ⟨rfl, h1⟩
 have HS2 := Lib.hid h1
 clear h1 b18 HK
 obtain ⟨-, -, -, -, -, -, -, -, -, -, -, -, -, -, -, -, -, -, b18⟩ := HX.out.box w2 HS2.out.2.2
 rw [HKA.out] at b18
 have HK := Lib.hid (HR2.out w2 (HL.out w2 _ HS2.out))
 go_wp2_with (refine at_load rfl _ rfl b (o + 38) rfl HK.out ?_)
 refine (Hp2.out w2 _ rfl HS2.out).mono ?_
 rintro e w3 ⟨rfl, h2⟩
 have HS3 := Lib.hid h2
 clear h2 b18 HK
 go_wp2_with (fail)
 go_end0
 exact HS3.out.end_.cast ES.out
end Disp
end Go.Proofs.YtkfkpjngiffamaaGreatDoor
