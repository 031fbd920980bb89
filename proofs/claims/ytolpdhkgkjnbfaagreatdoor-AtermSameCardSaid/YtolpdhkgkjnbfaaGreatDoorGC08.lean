/-The program's Same of terms with regions. (Written by wip/tools/atsamep.py.) Terms with regions: being the same goes both ways; each is the same as itself. The program's way through all nodes of terms with regions: the walk, with the closure of May. (Written by wip/tools/atfold.py.) A row of one term with regions. (Written by wip/tools/atsizep.py.) The program's from: are all regions from a number on? (Written by wip/tools/atfits.py.) -/
import Derived.Test.YtolpdhkgkjnbfaaGreatDoorGC07
namespace Go.Proofs.YtolpdhkgkjnbfaaGreatDoor
open Go.RowKit
set_option linter.unusedVariables false
set_option linter.unusedSimpArgs false
namespace Aterm
open Effect (RdI nget nget_at nget_mem ret_bool ret_i64 lt_of_block heap_alloc_new ofA)
open Rt (box_new box_at below_then)
set_option maxRecDepth 100000 in
set_option maxHeartbeats 6400000 in
theorem slEqual_walk {n c m d : Nat} {a b : Option Addr} {l k : List Int} {w : World} (h : RdI w n a l) (h2 : RdI w m b k) (hn : n ≤ 100000) (hm : m ≤ 100000) : Calls Tryz.prog 25 #[.slice a n c, .slice b m d] w fun e w' => e = .returned (.bool (decide (l = k))) ∧ Below w.heap.size w w' := by
  have mixed : Tryz.prog.follows .mixedOrders = true := by kernel_rfl
  have hnl := h.len; have hmk := h2.len
  have H := Lib.hid h; have H2 := Lib.hid h2
  clear h h2
  by_cases hnm : n = m
  · subst hnm
    have HN := Lib.hid hnl; have HM := Lib.hid hmk
    clear hnl hmk
    go_enter Tryz.func25, Tryz.ntmps25
    go_wp2_with (fail)
    go_loopg [5, 13] n (fun gh _ i wr => ∃ j q : Nat, j ≤ n ∧ n - j ≤ gh ∧ i = .int .i64 (j : Int) ∧ wr = w.drewN q ∧ Hid (∀ i, i < j → nget l i = nget k i))
    case atStart => exact ⟨0, 0, Nat.zero_le _, by omega, rfl, rfl, Lib.hid (fun i hi => by omega)⟩
    case round =>
      obtain ⟨j, q, hj, hgh, rfl, rfl, HE⟩ := hrel
      by_cases hlt : j < n
      · have hjl : j < l.length := by rw [HN.out]; exact hlt
        have hjk : j < k.length := by rw [HM.out]; exact hlt
        obtain ⟨b1, o1, rfl, e0⟩ := H.out.get j hjl
        obtain ⟨b2, o2, rfl, e1⟩ := H2.out.get j hjk
        have hst : nget l j = nget k j → ∀ i, i < j + 1 → nget l i = nget k i := fun he i hi => by
          rcases Nat.lt_or_ge i j with h | h
          · exact HE.out i h
          · rw [show i = j from by omega]; exact he
        have hno : nget l j ≠ nget k j → false = decide (l = k) := fun he => by
          rw [eq_comm, decide_eq_false_iff_not]
          intro h
          exact he (by rw [h])
        have HST := Lib.hid hst; have HNO := Lib.hid hno
        clear hst hno
        generalize nget l j = x at *
        generalize nget k j = y at *
        by_cases hxy : x = y
        · subst hxy
          have hxx : (x == x) = true := by simp
          have HS := Lib.hid (HST.out rfl)
          clear hjl hjk HST HNO
          go_wp2_with (fail)
          go_region_o
          clear hxx e0 e1
          go_wp2_with (fail)
          go_roundg (n - (j + 1))
          case measure => omega
          case rel => exact ⟨j + 1, q + 1, by omega, by omega, by go_num, rfl, HS⟩
        · have hxx : (x == y) = false := by simpa using hxy
          have hyy : (x != y) = true := by simpa using hxy
          have HS := Lib.hid (HNO.out hxy)
          clear hjl hjk HST HNO hxy
          go_wp2_with (fail)
          go_region_o
          clear e0 e1
          go_wp2_with (fail)
          go_ret
          exact ⟨ret_bool HS.out, ⟨rfl, rfl, rfl, Nat.le_refl _, fun _ _ => rfl⟩⟩
      · obtain rfl : j = n := by omega
        have hlk : l = k := ints_ext (by rw [HN.out, HM.out]) (fun i hi => HE.out i (by rw [HN.out] at hi; exact hi))
        have HLK := Lib.hid (show true = decide (l = k) from (decide_eq_true hlk).symm)
        clear hlk
        go_wp2_with (fail)
        go_ret
        exact ⟨ret_bool HLK.out, ⟨rfl, rfl, rfl, Nat.le_refl _, fun _ _ => rfl⟩⟩
  · have HLK := Lib.hid (show false = decide (l = k) from by
      rw [eq_comm, decide_eq_false_iff_not]
      intro h
      rw [h] at hnl
      omega)
    clear hnl hmk
    go_enter Tryz.func25, Tryz.ntmps25
    go_wp2_with (fail)
    go_ret
    exact ⟨ret_bool HLK.out, ⟨rfl, rfl, rfl, Nat.le_refl _, fun _ _ => rfl⟩⟩

/-- Where two heads are compared for being the same. -/
theorem hd_eq (a b : Term.Hd) (w : World) : (binOp .eql 23 (.agg (Term.hcells a).toArray) (.agg (Term.hcells b).toArray)).run Tryz.prog w = .ok (.bool (headB a b)) w := by
  rw [run_eql_struct, hd_eql]
  rfl
theorem eq_hd {ops : Array Oper} {rest : List Oper} {op : Oper} {a : Act} {w : World} {Q : Exit → Act → World → Prop} (hgd : op.guard = none) (x y : Operand) (t2 : TypeId) (ho : op.op = .binOp .eql 23 x y t2)
    (A B : Term.Hd) (hx : a.eval x = .agg (Term.hcells A).toArray) (hy : a.eval y = .agg (Term.hcells B).toArray)
    (k : wpList Tryz.prog ops Q rest (a.put op.dst (.bool (headB A B))) w) : wpList Tryz.prog ops Q (op :: rest) a w :=
  wpList_plain hgd fun K hK => by
    have hg : ∀ u v, (eqGuard .eql 23 u v (.agg (Term.hcells A).toArray) (.agg (Term.hcells B).toArray)).run Tryz.prog w = .ok () w := fun u v => (GuardAt.agg (P := Tryz.prog) (T := 23) (fun a : Term.Hd => (Term.hcells a).toArray) (by kernel_rfl)) .eql u v A B w
    unfold Oper.wp execOp
    simp only [ho, hx, hy, Sem.run_bind, Sem.run_pure, Result.andThen_ok, hg, hd_eq]
    exact hK _ _ k
/-- What is asked of Same by the one that goes through kids. -/
def SameOf (m : Nat) : Prop := ∀ (t u : AT) (h h' : Hd) (v v' : V) (l l' : Nat) (w : World), wt t ≤ m → AtIs w h v l t → AtIs w h' v' l' u → allT smallB t = true → allT smallB u = true →
    Calls Tryz.prog 11 #[.agg #[.int .u8 h.h.k, .int .u8 h.h.op, .int .i64 h.h.pl, .int .i64 h.h.n, .string h.h.name, .string h.h.arg, .string h.h.exn, .int .i64 h.rho, .slice v.ra h.rhos.length v.rc, .slice v.ea h.e.length v.ec, .int .u8 h.ty.h.k, .int .i64 h.ty.h.r, .slice v.tea h.ty.h.e.length v.tec, .slice v.tka h.ty.ks.length v.tkc, .int .u8 h.re.h.k, .int .i64 h.re.h.r, .slice v.sea h.re.h.e.length v.sec, .slice v.ska h.re.ks.length v.skc, .slice v.ka l v.kc], .agg #[.int .u8 h'.h.k, .int .u8 h'.h.op, .int .i64 h'.h.pl, .int .i64 h'.h.n, .string h'.h.name, .string h'.h.arg, .string h'.h.exn, .int .i64 h'.rho, .slice v'.ra h'.rhos.length v'.rc, .slice v'.ea h'.e.length v'.ec, .int .u8 h'.ty.h.k, .int .i64 h'.ty.h.r, .slice v'.tea h'.ty.h.e.length v'.tec, .slice v'.tka h'.ty.ks.length v'.tkc, .int .u8 h'.re.h.k, .int .i64 h'.re.h.r, .slice v'.sea h'.re.h.e.length v'.sec, .slice v'.ska h'.re.ks.length v'.skc, .slice v'.ka l' v'.kc]] w fun e w' => e = .returned (.bool (sameT t u)) ∧ Below w.heap.size w w'
theorem sameK_nil' (us : List AT) : sameK [] us = true := by unfold sameK; rfl
set_option maxRecDepth 10000 in
set_option maxHeartbeats 6400000 in
theorem equalF_walk (m : Nat) (hS : SameOf m) (ts us : List AT) (p p' : Option Addr) (l c l' c' : Nat) (w : World) (hm : wts ts ≤ m) (hl : ts.length = l) (hl' : us.length = l') (hlm : l ≤ maxLen) (hlm' : l' ≤ maxLen) (hk : Kids w p ts) (hk' : Kids w p' us) (hi : allK smallB ts = true) (hi' : allK smallB us = true) :
    Calls Tryz.prog 28 #[.slice p l c, .slice p' l' c', .func (.func 11) #[] #[]] w fun e w' => e = .returned (.bool (decide (l = l') && sameK ts us)) ∧ Below w.heap.size w w' := by
  unfold maxLen at hlm hlm'
  have HS := Lib.hid hS; have HM := Lib.hid hm; have HL := Lib.hid hl; have HL' := Lib.hid hl'; have HK := Lib.hid hk; have HK' := Lib.hid hk'; have HI := Lib.hid hi; have HI' := Lib.hid hi'
  clear hS hm hl hl' hk hk' hi hi'
  by_cases hll : l ≠ l'
  · have n1 : ((l : Int) == (l' : Int)) = false := by rw [beq_eq_false_iff_ne]; omega
    have n2 : ((l : Int) != (l' : Int)) = true := by rw [bne, n1]; rfl
    have hd : (decide (l = l') && sameK ts us) = false := by simp [hll]
    have HD := Lib.hid hd
    clear hd hll
    go_enter Tryz.func28, Tryz.ntmps28
    go_wp2_with (fail)
    go_ret
    exact ⟨ret_bool HD.out.symm, Below.refl _ _⟩
  have hll' : l = l' := Classical.not_not.1 hll
  clear hll
  subst hll'
  have hd : (decide (l = l) && sameK ts us) = sameK ts us := by simp
  have HD := Lib.hid hd
  clear hd hlm'
  go_enter Tryz.func28, Tryz.ntmps28
  go_wp2_with (fail)
  go_loopw [7, 8, 9, 17] (fun _ _ _ i wr => ∃ j : Nat, j ≤ l ∧ i = .int .i64 j ∧ Hid (sameK ts us = sameK (ts.drop j) (us.drop j)) ∧ Hid (Below w.heap.size w wr)) (fun _ _ _ i _ => l - (intOf i).toNat)
  case atStart => exact ⟨0, Nat.zero_le _, rfl, Lib.hid (by rw [List.drop_zero, List.drop_zero]), Lib.hid (Below.refl _ _)⟩
  case round =>
    obtain ⟨j, hj, rfl, HSK, HW⟩ := hrel
    by_cases hlt : j < l
    · have hjk : j < ts.length := by rw [HL.out]; exact hlt
      have hjk' : j < us.length := by rw [HL'.out]; exact hlt
      obtain ⟨b, o, q, rfl, hkid, hrg⟩ := (HK.out.stay HW.out).load j hjk
      obtain ⟨b', o', q', rfl, hkid', hrg'⟩ := (HK'.out.stay HW.out).load j hjk'
      have hwk := wts_get hjk
      have hik := allK_get _ hjk HI.out
      have hik' := allK_get _ hjk' HI'.out
      have hst := HSK.out
      rw [sameK_step _ _ _ hjk hjk'] at hst
      have HKI := Lib.hid hkid; have HKI' := Lib.hid hkid'; have HWK := Lib.hid hwk; have HIK := Lib.hid hik; have HIK' := Lib.hid hik'; have HST := Lib.hid hst; have HG := Lib.hid hrg; have HG' := Lib.hid hrg'
      clear hkid hkid' hjk hjk' hwk hik hik' hst hrg hrg'
      go_upto_region 6 with (first | refine at_load rfl _ rfl b (o + j * 19) rfl HG.out ?_ | refine at_store rfl _ _ rfl _ rfl (tget ts j).h q (tget ts j).ks.length rfl rfl ?_)
      have hx1 : Box (wr.alloc (.cells #[.int .u8 (tget ts j).h.h.k, .int .u8 (tget ts j).h.h.op, .int .i64 (tget ts j).h.h.pl, .int .i64 (tget ts j).h.h.n, .string (tget ts j).h.h.name, .string (tget ts j).h.h.arg, .string (tget ts j).h.h.exn, .int .i64 (tget ts j).h.rho, .slice q.ra (tget ts j).h.rhos.length q.rc, .slice q.ea (tget ts j).h.e.length q.ec, .int .u8 (tget ts j).h.ty.h.k, .int .i64 (tget ts j).h.ty.h.r, .slice q.tea (tget ts j).h.ty.h.e.length q.tec, .slice q.tka (tget ts j).h.ty.ks.length q.tkc, .int .u8 (tget ts j).h.re.h.k, .int .i64 (tget ts j).h.re.h.r, .slice q.sea (tget ts j).h.re.h.e.length q.sec, .slice q.ska (tget ts j).h.re.ks.length q.skc, .slice q.ka (tget ts j).ks.length q.kc] 31)) wr.heap.size (tget ts j).h q (tget ts j).ks.length := box_of
      have hb1 := box_new (w := wr) (.cells #[.int .u8 (tget ts j).h.h.k, .int .u8 (tget ts j).h.h.op, .int .i64 (tget ts j).h.h.pl, .int .i64 (tget ts j).h.h.n, .string (tget ts j).h.h.name, .string (tget ts j).h.h.arg, .string (tget ts j).h.h.exn, .int .i64 (tget ts j).h.rho, .slice q.ra (tget ts j).h.rhos.length q.rc, .slice q.ea (tget ts j).h.e.length q.ec, .int .u8 (tget ts j).h.ty.h.k, .int .i64 (tget ts j).h.ty.h.r, .slice q.tea (tget ts j).h.ty.h.e.length q.tec, .slice q.tka (tget ts j).h.ty.ks.length q.tkc, .int .u8 (tget ts j).h.re.h.k, .int .i64 (tget ts j).h.re.h.r, .slice q.sea (tget ts j).h.re.h.e.length q.sec, .slice q.ska (tget ts j).h.re.ks.length q.skc, .slice q.ka (tget ts j).ks.length q.kc] 31)
      generalize hW1 : wr.alloc (.cells #[.int .u8 (tget ts j).h.h.k, .int .u8 (tget ts j).h.h.op, .int .i64 (tget ts j).h.h.pl, .int .i64 (tget ts j).h.h.n, .string (tget ts j).h.h.name, .string (tget ts j).h.h.arg, .string (tget ts j).h.h.exn, .int .i64 (tget ts j).h.rho, .slice q.ra (tget ts j).h.rhos.length q.rc, .slice q.ea (tget ts j).h.e.length q.ec, .int .u8 (tget ts j).h.ty.h.k, .int .i64 (tget ts j).h.ty.h.r, .slice q.tea (tget ts j).h.ty.h.e.length q.tec, .slice q.tka (tget ts j).h.ty.ks.length q.tkc, .int .u8 (tget ts j).h.re.h.k, .int .i64 (tget ts j).h.re.h.r, .slice q.sea (tget ts j).h.re.h.e.length q.sec, .slice q.ska (tget ts j).h.re.ks.length q.skc, .slice q.ka (tget ts j).ks.length q.kc] 31) = W1 at hx1 hb1 ⊢
      clear hW1
      generalize hN1 : wr.heap.size = N1 at hx1 ⊢
      have HB1 := Lib.hid hb1; have HX1 := Lib.hid hx1; have HG1 := Lib.hid (range_below HG'.out hb1)
      clear hb1 hx1 hN1
      go_upto_region 7 with (first | refine at_load rfl _ rfl b' (o' + j * 19) rfl HG1.out ?_ | refine at_store rfl _ _ rfl _ rfl (tget us j).h q' (tget us j).ks.length rfl rfl ?_)
      have hx2 : Box (W1.alloc (.cells #[.int .u8 (tget us j).h.h.k, .int .u8 (tget us j).h.h.op, .int .i64 (tget us j).h.h.pl, .int .i64 (tget us j).h.h.n, .string (tget us j).h.h.name, .string (tget us j).h.h.arg, .string (tget us j).h.h.exn, .int .i64 (tget us j).h.rho, .slice q'.ra (tget us j).h.rhos.length q'.rc, .slice q'.ea (tget us j).h.e.length q'.ec, .int .u8 (tget us j).h.ty.h.k, .int .i64 (tget us j).h.ty.h.r, .slice q'.tea (tget us j).h.ty.h.e.length q'.tec, .slice q'.tka (tget us j).h.ty.ks.length q'.tkc, .int .u8 (tget us j).h.re.h.k, .int .i64 (tget us j).h.re.h.r, .slice q'.sea (tget us j).h.re.h.e.length q'.sec, .slice q'.ska (tget us j).h.re.ks.length q'.skc, .slice q'.ka (tget us j).ks.length q'.kc] 31)) W1.heap.size (tget us j).h q' (tget us j).ks.length := box_of
      have hb2 := box_new (w := W1) (.cells #[.int .u8 (tget us j).h.h.k, .int .u8 (tget us j).h.h.op, .int .i64 (tget us j).h.h.pl, .int .i64 (tget us j).h.h.n, .string (tget us j).h.h.name, .string (tget us j).h.h.arg, .string (tget us j).h.h.exn, .int .i64 (tget us j).h.rho, .slice q'.ra (tget us j).h.rhos.length q'.rc, .slice q'.ea (tget us j).h.e.length q'.ec, .int .u8 (tget us j).h.ty.h.k, .int .i64 (tget us j).h.ty.h.r, .slice q'.tea (tget us j).h.ty.h.e.length q'.tec, .slice q'.tka (tget us j).h.ty.ks.length q'.tkc, .int .u8 (tget us j).h.re.h.k, .int .i64 (tget us j).h.re.h.r, .slice q'.sea (tget us j).h.re.h.e.length q'.sec, .slice q'.ska (tget us j).h.re.ks.length q'.skc, .slice q'.ka (tget us j).ks.length q'.kc] 31)
      generalize hW2 : W1.alloc (.cells #[.int .u8 (tget us j).h.h.k, .int .u8 (tget us j).h.h.op, .int .i64 (tget us j).h.h.pl, .int .i64 (tget us j).h.h.n, .string (tget us j).h.h.name, .string (tget us j).h.h.arg, .string (tget us j).h.h.exn, .int .i64 (tget us j).h.rho, .slice q'.ra (tget us j).h.rhos.length q'.rc, .slice q'.ea (tget us j).h.e.length q'.ec, .int .u8 (tget us j).h.ty.h.k, .int .i64 (tget us j).h.ty.h.r, .slice q'.tea (tget us j).h.ty.h.e.length q'.tec, .slice q'.tka (tget us j).h.ty.ks.length q'.tkc, .int .u8 (tget us j).h.re.h.k, .int .i64 (tget us j).h.re.h.r, .slice q'.sea (tget us j).h.re.h.e.length q'.sec, .slice q'.ska (tget us j).h.re.ks.length q'.skc, .slice q'.ka (tget us j).ks.length q'.kc] 31) = W2 at hx2 hb2 ⊢
      clear hW2
      generalize hN2 : W1.heap.size = N2 at hx2 ⊢
      have HR2 := Lib.hid hx2.range; have HR1 := Lib.hid (HX1.out.below hb2).range; have HB2 := Lib.hid (HB1.out.trans (hb2.mono HB1.out.size))
      clear hb2 hx2 hN2
      go_wp2_with (first | refine at_load rfl _ rfl N1 0 rfl HR1.out ?_ | refine at_load rfl _ rfl N2 0 rfl HR2.out ?_)
      refine (HS.out (tget ts j) (tget us j) _ _ q q' _ _ W2 (by have := HM.out; have := HWK.out; omega) (HKI.out.below HB2.out) (HKI'.out.below HB2.out) HIK.out HIK'.out).mono ?_
      rintro e w2 ⟨rfl, hb3⟩
      have HW2 := Lib.hid (below_then HW.out (HB2.out.trans (hb3.mono HB2.out.size)) HW.out.size)
      clear hb3
      cases hs : sameT (tget ts j) (tget us j)
      · have hr2 := HST.out
        rw [hs, Bool.false_and] at hr2
        have HR3 := Lib.hid hr2
        clear hr2 hs
        go_wp2_with (fail)
        go_ret
        exact ⟨ret_bool (by rw [HD.out, HR3.out]), HW2.out⟩
      · have hr2 := HST.out
        rw [hs, Bool.true_and] at hr2
        have HR3 := Lib.hid hr2
        clear hr2 hs
        go_wp2_with (fail)
        go_roundw
        case rel => exact ⟨j + 1, by omega, by go_num, HR3, HW2⟩
        case measure => simp [intOf]; omega
    · obtain rfl : j = l := by omega
      have hr2 := HSK.out
      rw [List.drop_eq_nil_of_le (by rw [HL.out]; exact Nat.le_refl _), sameK_nil'] at hr2
      have HR2 := Lib.hid hr2
      clear hr2
      go_wp2_with (fail)
      go_ret
      exact ⟨ret_bool (by rw [HD.out, HR2.out]), HW.out⟩

set_option maxRecDepth 100000 in
set_option maxHeartbeats 12800000 in
theorem same_walk : ∀ m : Nat, SameOf m := by
  intro m
  induction m with
  | zero => intro t u h h' v v' l l' w hm; have := wt_pos t; omega
  | succ m ih =>
    intro t u h h' v v' l l' w hm hT hU hi hi'
    have hs0 := sameT_eq t u
    have hsh : sameH h h' = (headB h.h h'.h && decide (h.rho = h'.rho) && decide (h.rhos = h'.rhos) && decide (ofA h.e = ofA h'.e) && Rt.sameT h.ty h'.ty && Rt.sameT h.re h'.re) := rfl
    rw [hT.head, hU.head, hT.len, hU.len, hsh] at hs0
    have hs1 : sameT t u = (headB h.h h'.h && (decide (h.rho = h'.rho) && (decide (h.rhos = h'.rhos) && (decide (ofA h.e = ofA h'.e) && (Rt.sameT h.ty h'.ty && (Rt.sameT h.re h'.re && (decide (l = l') && sameK t.ks u.ks))))))) := by
      rw [hs0]
      simp only [Bool.and_assoc]
    rw [allT_eq, Bool.and_eq_true, hT.head] at hi
    rw [allT_eq, Bool.and_eq_true, hU.head] at hi'
    obtain ⟨r1, ⟨e1, _⟩, y1, z1⟩ := small_ok hi.1
    obtain ⟨r2, ⟨e2, _⟩, y2, z2⟩ := small_ok hi'.1
    have hwt := wt_ks t
    have hei := fun W (hb : Below w.heap.size w W) => slEqual_walk (c := v.rc) (d := v'.rc) (hT.ok.rhos.below hb) (hU.ok.rhos.below hb) (by omega) (by omega)
    have hef := fun W (hb : Below w.heap.size w W) => Effect.same_walk (c := v.ec) (d := v'.ec) (hT.ok.eff.below hb).rd (hU.ok.eff.below hb).rd (by omega) (by omega)
    have hty := fun W (hb : Below w.heap.size w W) => Rt.same_walk _ _ _ _ _ _ _ _ _ _ _ _ _ _ _ _ _ W (Nat.le_refl _) (hT.ok.ty.below hb) (hU.ok.ty.below hb) y1 y2
    have hre := fun W (hb : Below w.heap.size w W) => Rt.same_walk _ _ _ _ _ _ _ _ _ _ _ _ _ _ _ _ _ W (Nat.le_refl _) (hT.ok.re.below hb) (hU.ok.re.below hb) z1 z2
    have hkk := fun W (hb : Below w.heap.size w W) => equalF_walk m ih t.ks u.ks v.ka v'.ka l v.kc l' v'.kc W (by omega) hT.len hU.len (Nat.le_trans hT.cap.1 hT.cap.2) (Nat.le_trans hU.cap.1 hU.cap.2) (hT.kids.stay hb) (hU.kids.stay hb) hi.2 hi'.2
    have HS := Lib.hid hs1; have HEI := Lib.hid hei; have HEF := Lib.hid hef; have HTY := Lib.hid hty; have HRE := Lib.hid hre; have HKK := Lib.hid hkk
    clear hs0 hs1 hsh hei hef hty hre hkk hi hi' hT hU ih hm hwt r1 e1 y1 z1 r2 e2 y2 z2
    go_enter Tryz.func11, Tryz.ntmps11
    go_upto_region 1 with (fail)
    obtain ⟨W0, hW0⟩ : ∃ W0, W0 = (w.alloc (.cells #[.int .u8 h.h.k, .int .u8 h.h.op, .int .i64 h.h.pl, .int .i64 h.h.n, .string h.h.name, .string h.h.arg, .string h.h.exn, .int .i64 h.rho, .slice v.ra h.rhos.length v.rc, .slice v.ea h.e.length v.ec, .int .u8 h.ty.h.k, .int .i64 h.ty.h.r, .slice v.tea h.ty.h.e.length v.tec, .slice v.tka h.ty.ks.length v.tkc, .int .u8 h.re.h.k, .int .i64 h.re.h.r, .slice v.sea h.re.h.e.length v.sec, .slice v.ska h.re.ks.length v.skc, .slice v.ka l v.kc] 31)).alloc (.cells #[.int .u8 h'.h.k, .int .u8 h'.h.op, .int .i64 h'.h.pl, .int .i64 h'.h.n, .string h'.h.name, .string h'.h.arg, .string h'.h.exn, .int .i64 h'.rho, .slice v'.ra h'.rhos.length v'.rc, .slice v'.ea h'.e.length v'.ec, .int .u8 h'.ty.h.k, .int .i64 h'.ty.h.r, .slice v'.tea h'.ty.h.e.length v'.tec, .slice v'.tka h'.ty.ks.length v'.tkc, .int .u8 h'.re.h.k, .int .i64 h'.re.h.r, .slice v'.sea h'.re.h.e.length v'.sec, .slice v'.ska h'.re.ks.length v'.skc, .slice v'.ka l' v'.kc] 31) := ⟨_, rfl⟩
    have hbx1 : Box W0 w.heap.size h v l := by rw [hW0]; exact (box_of (w := w) (h := h) (v := v) (l := l)).below (box_new _)
    have hbx2 : Box W0 (w.heap.size + 1) h' v' l' := by
      rw [hW0]
      have := box_of (w := w.alloc (.cells #[.int .u8 h.h.k, .int .u8 h.h.op, .int .i64 h.h.pl, .int .i64 h.h.n, .string h.h.name, .string h.h.arg, .string h.h.exn, .int .i64 h.rho, .slice v.ra h.rhos.length v.rc, .slice v.ea h.e.length v.ec, .int .u8 h.ty.h.k, .int .i64 h.ty.h.r, .slice v.tea h.ty.h.e.length v.tec, .slice v.tka h.ty.ks.length v.tkc, .int .u8 h.re.h.k, .int .i64 h.re.h.r, .slice v.sea h.re.h.e.length v.sec, .slice v.ska h.re.ks.length v.skc, .slice v.ka l v.kc] 31)) (h := h') (v := v') (l := l') (ty := 31)
      rwa [World.size_alloc] at this
    have hb0 : Below w.heap.size w W0 := by rw [hW0]; exact (box_new _).trans ((box_new _).mono (by simp))
    rw [← hW0]
    clear hW0
    generalize hN2 : w.heap.size + 1 = N2 at hbx2 ⊢
    generalize hN1 : w.heap.size = N1 at hbx1 ⊢
    have HB0 := Lib.hid hb0; have HX1 := Lib.hid hbx1; have HX2 := Lib.hid hbx2; have HC0 := Lib.hid (Below.refl W0.heap.size W0)
    clear hb0 hN1 hN2 hbx1 hbx2
    obtain ⟨a0, a1, a2, a3, a4, a5, a6, a7, a8, a9, a10, a11, a12, a13, a14, a15, a16, a17, a18⟩ := HX1.out.below HC0.out
    obtain ⟨d0, d1, d2, d3, d4, d5, d6, d7, d8, d9, d10, d11, d12, d13, d14, d15, d16, d17, d18⟩ := HX2.out.below HC0.out
    clear a8 a9 a10 a11 a12 a13 a14 a15 a16 a17 a18 d8 d9 d10 d11 d12 d13 d14 d15 d16 d17 d18
    go_upto_region 1 with (fail)
    have heq := HS.out
    cases hq : headB h.h h'.h
    · have HR := Lib.hid (show sameT t u = false by rw [HS.out, hq]; simp)
      have HQ := Lib.hid hq
      clear hq HS heq
      go_wp2_with (refine eq_hd rfl _ _ _ rfl h.h h'.h rfl rfl ?_; rw [HQ.out])
      go_ret
      exact ⟨ret_bool HR.out.symm, HB0.out⟩
    have HQ := Lib.hid hq
    have hs1 := HS.out; rw [hq, Bool.true_and] at hs1
    clear HS hq heq
    have HS := Lib.hid hs1; clear hs1
    by_cases hrr : h.rho = h'.rho
    case neg =>
      have HR := Lib.hid (show sameT t u = false by rw [HS.out, decide_eq_false hrr]; simp)
      have n1 : (h.rho == h'.rho) = false := by simpa using hrr
      clear hrr HS
      go_wp2_with (refine eq_hd rfl _ _ _ rfl h.h h'.h rfl rfl ?_; rw [HQ.out])
      go_ret
      exact ⟨ret_bool HR.out.symm, HB0.out⟩
    have hs1 := HS.out; rw [decide_eq_true hrr, Bool.true_and] at hs1
    clear HS
    have HS := Lib.hid hs1; clear hs1
    have n1 : (h.rho == h'.rho) = true := by simpa using hrr
    clear hrr
    obtain ⟨a0, a1, a2, a3, a4, a5, a6, a7, a8, a9, a10, a11, a12, a13, a14, a15, a16, a17, a18⟩ := HX1.out.below HC0.out
    obtain ⟨d0, d1, d2, d3, d4, d5, d6, d7, d8, d9, d10, d11, d12, d13, d14, d15, d16, d17, d18⟩ := HX2.out.below HC0.out
    clear a9 d9 a10 d10 a11 d11 a12 d12 a13 d13 a14 d14 a15 d15 a16 d16 a17 d17 a18 d18
    go_wp2_with (refine eq_hd rfl _ _ _ rfl h.h h'.h rfl rfl ?_; rw [HQ.out])
    refine (HEI.out _ HB0.out).mono ?_
    rintro e w1 ⟨rfl, hb1⟩
    have HC1 := Lib.hid (HC0.out.trans (hb1.mono HC0.out.size)); clear hb1
    clear a0 d0 a1 d1 a2 d2 a3 d3 a4 d4 a5 d5 a6 d6 a7 d7 a8 d8
    cases hq : decide (h.rhos = h'.rhos)
    · have HR := Lib.hid (show sameT t u = false by rw [HS.out, hq]; simp)
      clear hq HS
      go_wp2_with (fail)
      go_ret
      exact ⟨ret_bool HR.out.symm, below_then HB0.out HC1.out HB0.out.size⟩
    have hs1 := HS.out; rw [hq, Bool.true_and] at hs1
    clear HS hq
    have HS := Lib.hid hs1; clear hs1
    obtain ⟨a0, a1, a2, a3, a4, a5, a6, a7, a8, a9, a10, a11, a12, a13, a14, a15, a16, a17, a18⟩ := HX1.out.below HC1.out
    obtain ⟨d0, d1, d2, d3, d4, d5, d6, d7, d8, d9, d10, d11, d12, d13, d14, d15, d16, d17, d18⟩ := HX2.out.below HC1.out
    clear a0 a1 a2 a3 a4 a5 a6 a7 a8 a10 a11 a12 a13 a14 a15 a16 a17 a18 d0 d1 d2 d3 d4 d5 d6 d7 d8 d10 d11 d12 d13 d14 d15 d16 d17 d18
    go_wp2_with (fail)
    refine (HEF.out _ (below_then HB0.out HC1.out HB0.out.size)).mono ?_
    rintro e w2 ⟨rfl, hb1⟩
    have HC2 := Lib.hid (HC1.out.trans (hb1.mono HC1.out.size)); clear hb1
    clear a9 d9
    cases hq : decide (ofA h.e = ofA h'.e)
    · have HR := Lib.hid (show sameT t u = false by rw [HS.out, hq]; simp)
      clear hq HS
      go_wp2_with (fail)
      go_ret
      exact ⟨ret_bool HR.out.symm, below_then HB0.out HC2.out HB0.out.size⟩
    have hs1 := HS.out; rw [hq, Bool.true_and] at hs1
    clear HS hq
    have HS := Lib.hid hs1; clear hs1
    obtain ⟨a0, a1, a2, a3, a4, a5, a6, a7, a8, a9, a10, a11, a12, a13, a14, a15, a16, a17, a18⟩ := HX1.out.below HC2.out
    obtain ⟨d0, d1, d2, d3, d4, d5, d6, d7, d8, d9, d10, d11, d12, d13, d14, d15, d16, d17, d18⟩ := HX2.out.below HC2.out
    clear a0 a1 a2 a3 a4 a5 a6 a7 a8 a9 a14 a15 a16 a17 a18 d0 d1 d2 d3 d4 d5 d6 d7 d8 d9 d14 d15 d16 d17 d18
    go_wp2_with (fail)
    refine (HTY.out _ (below_then HB0.out HC2.out HB0.out.size)).mono ?_
    rintro e w3 ⟨rfl, hb1⟩
    have HC3 := Lib.hid (HC2.out.trans (hb1.mono HC2.out.size)); clear hb1
    clear a10 d10 a11 d11 a12 d12 a13 d13
    cases hq : Rt.sameT h.ty h'.ty
    · have HR := Lib.hid (show sameT t u = false by rw [HS.out, hq]; simp)
      clear hq HS
      go_wp2_with (fail)
      go_ret
      exact ⟨ret_bool HR.out.symm, below_then HB0.out HC3.out HB0.out.size⟩
    have hs1 := HS.out; rw [hq, Bool.true_and] at hs1
    clear HS hq
    have HS := Lib.hid hs1; clear hs1
    obtain ⟨a0, a1, a2, a3, a4, a5, a6, a7, a8, a9, a10, a11, a12, a13, a14, a15, a16, a17, a18⟩ := HX1.out.below HC3.out
    obtain ⟨d0, d1, d2, d3, d4, d5, d6, d7, d8, d9, d10, d11, d12, d13, d14, d15, d16, d17, d18⟩ := HX2.out.below HC3.out
    clear a0 a1 a2 a3 a4 a5 a6 a7 a8 a9 a10 a11 a12 a13 a18 d0 d1 d2 d3 d4 d5 d6 d7 d8 d9 d10 d11 d12 d13 d18
    go_wp2_with (fail)
    refine (HRE.out _ (below_then HB0.out HC3.out HB0.out.size)).mono ?_
    rintro e w4 ⟨rfl, hb1⟩
    have HC4 := Lib.hid (HC3.out.trans (hb1.mono HC3.out.size)); clear hb1
    clear a14 d14 a15 d15 a16 d16 a17 d17
    cases hq : Rt.sameT h.re h'.re
    · have HR := Lib.hid (show sameT t u = false by rw [HS.out, hq]; simp)
      clear hq HS
      go_wp2_with (fail)
      go_ret
      exact ⟨ret_bool HR.out.symm, below_then HB0.out HC4.out HB0.out.size⟩
    have hs1 := HS.out; rw [hq, Bool.true_and] at hs1
    clear HS hq
    have HS := Lib.hid hs1; clear hs1
    obtain ⟨a0, a1, a2, a3, a4, a5, a6, a7, a8, a9, a10, a11, a12, a13, a14, a15, a16, a17, a18⟩ := HX1.out.below HC4.out
    obtain ⟨d0, d1, d2, d3, d4, d5, d6, d7, d8, d9, d10, d11, d12, d13, d14, d15, d16, d17, d18⟩ := HX2.out.below HC4.out
    clear a0 a1 a2 a3 a4 a5 a6 a7 a8 a9 a10 a11 a12 a13 a14 a15 a16 a17 d0 d1 d2 d3 d4 d5 d6 d7 d8 d9 d10 d11 d12 d13 d14 d15 d16 d17
    go_wp2_with (fail)
    refine (HKK.out _ (below_then HB0.out HC4.out HB0.out.size)).mono ?_
    rintro e w5 ⟨rfl, hb1⟩
    have HC5 := Lib.hid (HC4.out.trans (hb1.mono HC4.out.size)); clear hb1
    clear a18 d18
    generalize hX : (decide (l = l') && sameK t.ks u.ks) = X at *
    clear hX
    go_wp2_with (fail)
    go_ret
    exact ⟨ret_bool HS.out.symm, below_then HB0.out HC5.out HB0.out.size⟩
end Aterm
end Go.Proofs.YtolpdhkgkjnbfaaGreatDoor
namespace Go.Proofs.YtolpdhkgkjnbfaaGreatDoor
open Go.RowKit
set_option linter.unusedVariables false
set_option linter.unusedSimpArgs false
namespace Aterm
theorem dec_comm {α : Type} [DecidableEq α] (a b : α) : decide (a = b) = decide (b = a) := by rw [decide_eq_decide]; exact ⟨Eq.symm, Eq.symm⟩
theorem rtK_nil (us : List Rt.RT) : Rt.sameK [] us = true := by conv => lhs; unfold Rt.sameK
theorem rtK_cons (t u : Rt.RT) (ts us : List Rt.RT) : Rt.sameK (t :: ts) (u :: us) = (Rt.sameT t u && Rt.sameK ts us) := by conv => lhs; unfold Rt.sameK
theorem rt_comm : ∀ m : Nat, (∀ t u : Rt.RT, Rt.wt t ≤ m → Rt.sameT t u = Rt.sameT u t) ∧ (∀ ts us : List Rt.RT, Rt.wts ts ≤ m → ts.length = us.length → Rt.sameK ts us = Rt.sameK us ts) := by
  intro m
  induction m with
  | zero =>
    refine ⟨fun t u h => by have := Rt.wt_pos t; omega, fun ts us h hl => ?_⟩
    cases ts with
    | nil => cases us with
             | nil => rfl
             | cons => simp at hl
    | cons t ts => rw [Rt.wts_cons] at h; have := Rt.wt_pos t; omega
  | succ m ih =>
    have hT : ∀ t u : Rt.RT, Rt.wt t ≤ m + 1 → Rt.sameT t u = Rt.sameT u t := by
      intro t u h
      have hk := Rt.wt_ks t
      rw [Rt.sameT_eq, Rt.sameT_eq u t, dec_comm t.h.k, dec_comm t.h.r, dec_comm (Effect.ofA t.h.e)]
      by_cases hl : t.ks.length = u.ks.length
      · rw [ih.2 t.ks u.ks (by omega) hl, dec_comm t.ks.length]
      · rw [decide_eq_false hl, decide_eq_false (fun e : u.ks.length = t.ks.length => hl e.symm)]; simp
    refine ⟨hT, fun ts => ?_⟩
    induction ts with
    | nil => intro us _ hl; cases us with
             | nil => rfl
             | cons => simp at hl
    | cons t ts ihs =>
      intro us h hl
      rw [Rt.wts_cons] at h
      cases us with
      | nil => simp at hl
      | cons u us => rw [rtK_cons, rtK_cons, hT t u (by omega), ihs us (by omega) (by simpa using hl)]
theorem rt_self : ∀ m : Nat, (∀ t : Rt.RT, Rt.wt t ≤ m → Rt.sameT t t = true) ∧ (∀ ts : List Rt.RT, Rt.wts ts ≤ m → Rt.sameK ts ts = true) := by
  intro m
  induction m with
  | zero =>
    refine ⟨fun t h => by have := Rt.wt_pos t; omega, fun ts h => ?_⟩
    cases ts with
    | nil => exact rtK_nil _
    | cons t ts => rw [Rt.wts_cons] at h; have := Rt.wt_pos t; omega
  | succ m ih =>
    have hT : ∀ t : Rt.RT, Rt.wt t ≤ m + 1 → Rt.sameT t t = true := by
      intro t h
      have hk := Rt.wt_ks t
      rw [Rt.sameT_eq, ih.2 t.ks (by omega)]
      simp
    refine ⟨hT, fun ts => ?_⟩
    induction ts with
    | nil => intro _; exact rtK_nil _
    | cons t ts ihs =>
      intro h
      rw [Rt.wts_cons] at h
      rw [rtK_cons, hT t (by omega), ihs (by omega)]; rfl
theorem atK_cons (t u : AT) (ts us : List AT) : sameK (t :: ts) (u :: us) = (sameT t u && sameK ts us) := by conv => lhs; unfold sameK
theorem atK_nil (us : List AT) : sameK [] us = true := by unfold sameK; rfl
theorem headB_comm (a b : Term.Hd) : headB a b = headB b a := by
  unfold headB
  rw [decide_eq_decide]
  constructor <;> (rintro ⟨h1, h2, h3, h4, h5, h6, h7⟩; exact ⟨h1.symm, h2.symm, h3.symm, h4.symm, h5.symm, h6.symm, h7.symm⟩)
theorem sameH_of (a b : Hd) : sameH a b = (headB a.h b.h && decide (a.rho = b.rho) && decide (a.rhos = b.rhos) && decide (Effect.ofA a.e = Effect.ofA b.e) && Rt.sameT a.ty b.ty && Rt.sameT a.re b.re) := rfl
theorem sameH_comm (a b : Hd) : sameH a b = sameH b a := by
  rw [sameH_of, sameH_of, headB_comm, dec_comm a.rho, dec_comm a.rhos, dec_comm (Effect.ofA a.e), (rt_comm _).1 a.ty b.ty (Nat.le_refl _), (rt_comm _).1 a.re b.re (Nat.le_refl _)]
theorem at_comm : ∀ m : Nat, (∀ t u : AT, wt t ≤ m → sameT t u = sameT u t) ∧ (∀ ts us : List AT, wts ts ≤ m → ts.length = us.length → sameK ts us = sameK us ts) := by
  intro m
  induction m with
  | zero =>
    refine ⟨fun t u h => by have := wt_pos t; omega, fun ts us h hl => ?_⟩
    cases ts with
    | nil => cases us with
             | nil => rfl
             | cons => simp at hl
    | cons t ts => rw [wts_cons] at h; have := wt_pos t; omega
  | succ m ih =>
    have hT : ∀ t u : AT, wt t ≤ m + 1 → sameT t u = sameT u t := by
      intro t u h
      have hk := wt_ks t
      rw [sameT_eq, sameT_eq u t, sameH_comm]
      by_cases hl : t.ks.length = u.ks.length
      · rw [ih.2 t.ks u.ks (by omega) hl, dec_comm t.ks.length]
      · rw [decide_eq_false hl, decide_eq_false (fun e : u.ks.length = t.ks.length => hl e.symm)]; simp
    refine ⟨hT, fun ts => ?_⟩
    induction ts with
    | nil => intro us _ hl; cases us with
             | nil => rfl
             | cons => simp at hl
    | cons t ts ihs =>
      intro us h hl
      rw [wts_cons] at h
      cases us with
      | nil => simp at hl
      | cons u us => rw [atK_cons, atK_cons, hT t u (by omega), ihs us (by omega) (by simpa using hl)]
theorem at_self : ∀ m : Nat, (∀ t : AT, wt t ≤ m → sameT t t = true) ∧ (∀ ts : List AT, wts ts ≤ m → sameK ts ts = true) := by
  intro m
  induction m with
  | zero =>
    refine ⟨fun t h => by have := wt_pos t; omega, fun ts h => ?_⟩
    cases ts with
    | nil => exact atK_nil _
    | cons t ts => rw [wts_cons] at h; have := wt_pos t; omega
  | succ m ih =>
    have hT : ∀ t : AT, wt t ≤ m + 1 → sameT t t = true := by
      intro t h
      have hk := wt_ks t
      rw [sameT_eq, ih.2 t.ks (by omega), sameH_of, (rt_self _).1 t.h.ty (Nat.le_refl _), (rt_self _).1 t.h.re (Nat.le_refl _)]
      unfold headB
      simp
    refine ⟨hT, fun ts => ?_⟩
    induction ts with
    | nil => intro _; exact atK_nil _
    | cons t ts ihs =>
      intro h
      rw [wts_cons] at h
      rw [atK_cons, hT t (by omega), ihs (by omega)]; rfl
theorem same_comm (t u : AT) : sameT t u = sameT u t := (at_comm _).1 t u (Nat.le_refl _)
theorem same_self (t : AT) : sameT t t = true := (at_self _).1 t (Nat.le_refl _)
end Aterm
end Go.Proofs.YtolpdhkgkjnbfaaGreatDoor
namespace Go.Proofs.YtolpdhkgkjnbfaaGreatDoor
open Go.RowKit
set_option linter.unusedVariables false
set_option linter.unusedSimpArgs false
namespace Aterm
open Rt (box_new box_at below_then)
open Effect (ret_bool ret_i64 lt_of_block heap_alloc_new)

set_option maxRecDepth 10000 in
set_option maxHeartbeats 6400000 in
theorem allMay_walk {σ : Type} (B : σ → AT → Bool) (S : σ → AT → σ) (C : Hd → Nat → Bool) (w0 : World) (P : Nat → Option Obj → Prop) (K0 : Nat) (I : Nat → σ → World → Prop) (hI : Goes w0 P I) (hC : Steps 19 [.pointer (some ⟨K0, 0, none⟩)] B S C w0 P I) :
    ∀ (m : Nat) (ts : List AT) (p : Option Addr) (l d r : Nat) (s : σ) (w : World), wts ts ≤ m → ts.length = l → l ≤ maxLen → (∀ W, Tch P w W → RowS w0 W p ts) → Below w0.heap.size w0 w → allK C ts = true → I (r + wts ts) s w →
    Calls Tryz.prog 18 #[.func (.func 19) #[] #[.pointer (some ⟨K0, 0, none⟩)], .slice p l d] w (FoEnd P (I r) (foK B S ts s) w) := by
  have GI := Lib.hid hI; have GC := Lib.hid hC
  clear hI hC
  intro m
  induction m using Nat.strongRecOn with
  | _ m ih =>
    intro ts p l d r s w hm hl hlm hk hb00 hcc hi
    unfold maxLen at hlm
    have HM := Lib.hid hm; have HL := Lib.hid hl; have HK := Lib.hid hk; have HI := Lib.hid hi; have IH := Lib.hid ih; have HB00 := Lib.hid hb00; have HCC := Lib.hid hcc
    clear hm hl hk hi ih hb00 hcc
    go_enter Tryz.func18, Tryz.ntmps18
    go_wp2_with (fail)
    go_loopw [6, 9] (fun _ i wr => ∃ (j : Nat) (u : σ), j ≤ l ∧ i = .int .i64 j ∧ Hid (foK B S ts s = foK B S (ts.drop j) u) ∧ Hid (I (r + wts (ts.drop j)) u wr) ∧ Hid (Tch P w wr)) (fun _ i _ => l - (intOf i).toNat)
    case atStart => exact ⟨0, s, Nat.zero_le _, rfl, Lib.hid (by rw [List.drop_zero]), Lib.hid (by rw [List.drop_zero]; exact HI.out), Lib.hid (Tch.refl _)⟩
    case round =>
      obtain ⟨j, u, hj, rfl, HF, HJ, HS⟩ := hrel
      by_cases hlt : j < l
      · have hjk : j < ts.length := by rw [HL.out]; exact hlt
        obtain ⟨b, o, v, rfl, hkid, hrg⟩ := HK.out wr HS.out j hjk
        have hbr : Below w0.heap.size w0 wr := HS.out.below GI.out.low HB00.out (Nat.le_refl _)
        have hcj := allK_get _ hjk HCC.out
        rw [allT_eq, Bool.and_eq_true] at hcj
        have hwd := wts_drop' ts j hjk
        have hwm : wts (tget ts j).ks < wts ts := by have h1 := wts_get hjk; have h2 := wt_ks (tget ts j); omega
        have hin : I ((r + wts (ts.drop (j + 1))) + wts (tget ts j).ks + 1) u wr := GI.out.less _ _ _ _ HJ.out (by omega)
        have hnew := GI.out.new _ _ _ HJ.out
        have HJK := Lib.hid hjk; have HKID := Lib.hid hkid; have HWM := Lib.hid hwm; have HIN := Lib.hid hin; have HRG := Lib.hid hrg; have HBR := Lib.hid hbr; have HCJ := Lib.hid hcj; have HNEW := Lib.hid hnew
        clear hjk hkid hwd hwm hin hrg hbr hcj hnew
        go_upto_region 4 with (first | refine at_load rfl _ rfl b (o + j * 19) rfl HRG.out ?_ | refine at_store rfl _ _ rfl _ rfl (tget ts j).h v (tget ts j).ks.length rfl rfl ?_)
        obtain ⟨W0, hW0⟩ : ∃ W0, W0 = wr.alloc (.cells #[.int .u8 (tget ts j).h.h.k, .int .u8 (tget ts j).h.h.op, .int .i64 (tget ts j).h.h.pl, .int .i64 (tget ts j).h.h.n, .string (tget ts j).h.h.name, .string (tget ts j).h.h.arg, .string (tget ts j).h.h.exn, .int .i64 (tget ts j).h.rho, .slice v.ra (tget ts j).h.rhos.length v.rc, .slice v.ea (tget ts j).h.e.length v.ec, .int .u8 (tget ts j).h.ty.h.k, .int .i64 (tget ts j).h.ty.h.r, .slice v.tea (tget ts j).h.ty.h.e.length v.tec, .slice v.tka (tget ts j).h.ty.ks.length v.tkc, .int .u8 (tget ts j).h.re.h.k, .int .i64 (tget ts j).h.re.h.r, .slice v.sea (tget ts j).h.re.h.e.length v.sec, .slice v.ska (tget ts j).h.re.ks.length v.skc, .slice v.ka (tget ts j).ks.length v.kc] 31) := ⟨_, rfl⟩
        have hbx : Box W0 wr.heap.size (tget ts j).h v (tget ts j).ks.length := by rw [hW0]; exact box_of (w := wr) (h := (tget ts j).h) (v := v) (l := (tget ts j).ks.length)
        have hb0 : Below wr.heap.size wr W0 := by rw [hW0]; exact box_new _
        have hnp : ¬ P wr.heap.size W0.heap[wr.heap.size]? := by
          rw [hW0, heap_alloc_new]
          exact HNEW.out _ _
        rw [← hW0]
        clear hW0
        have HSA := Lib.hid (HS.out.trans (Tch.of_below hb0))
        have HST := Lib.hid (GI.out.keep _ _ _ _ HIN.out hb0); have HBR0 := Lib.hid (below_then HBR.out hb0 HBR.out.size)
        generalize hN0 : wr.heap.size = N0 at hbx hnp ⊢
        have HNP := Lib.hid hnp; have HBX := Lib.hid hbx; have HRB := Lib.hid hbx.range
        clear hb0 hN0 hbx hnp
        go_wp2_with (refine at_load rfl _ rfl N0 0 rfl HRB.out ?_)
        refine (GC.out _ _ _ (tget ts j) (tget ts j).h v (tget ts j).ks.length HST.out HKID.out HCJ.out.1 HBR0.out).mono ?_
        rintro e w1 ⟨rfl, hi1, hs1⟩
        obtain ⟨b0, b1, b2, b3, b4, b5, b6, b7, b8, b9, b10, b11, b12, b13, b14, b15, b16, b17, b18⟩ := hs1.box HBX.out HNP.out
        clear b0 b1 b2 b3 b4 b5 b6 b7 b8 b9 b10 b11 b12 b13 b14 b15 b16 b17
        have HI1 := Lib.hid hi1
        have HS1 := Lib.hid (HSA.out.trans hs1)
        clear hi1 hs1
        cases hb : B u (tget ts j)
        · have hno := foK_no B S HJK.out hb
          have hi2 := GI.out.less _ r _ _ HI1.out (by omega)
          have HNO := Lib.hid hno; have HB := Lib.hid hb; have HI2 := Lib.hid hi2
          clear hno hb hi2
          go_wp2_with (fail)
          go_ret
          exact ⟨ret_bool (by rw [HF.out, HNO.out]), by rw [HF.out, HNO.out]; exact HI2.out, HS1.out⟩
        · have HB := Lib.hid hb
          clear hb
          go_wp2_with (fail)
          refine (IH.out (wts (tget ts j).ks) (by have := HWM.out; have := HM.out; omega) (tget ts j).ks v.ka _ v.kc (r + wts (ts.drop (j + 1))) _ _ (Nat.le_refl _) rfl (Nat.le_trans HKID.out.cap.1 HKID.out.cap.2) (fun W hW => rowS_kids HKID.out.kids ((HS1.out.trans hW).below GI.out.low HB00.out (Nat.le_refl _))) (HS1.out.below GI.out.low HB00.out (Nat.le_refl _)) HCJ.out.2 HI1.out).mono ?_
          rintro e w2 ⟨rfl, hi3, hs3⟩
          have HI3 := Lib.hid hi3
          have HS3 := Lib.hid (HS1.out.trans hs3)
          clear hi3 hs3 b18
          cases hk : (foK B S (tget ts j).ks (S u (tget ts j))).1
          · have hno := foK_kno B S HJK.out HB.out hk
            have hi4 := GI.out.less _ r _ _ HI3.out (by omega)
            have HNO := Lib.hid hno; have HKB := Lib.hid hk; have HI4 := Lib.hid hi4
            clear hno hk hi4
            go_wp2_with (fail)
            go_ret
            exact ⟨ret_bool (by rw [HF.out, HNO.out]), by rw [HF.out, HNO.out]; exact HI4.out, HS3.out⟩
          · have hyes := foK_yes B S HJK.out HB.out hk
            have HYES := Lib.hid hyes; have HKB := Lib.hid hk
            clear hyes hk
            go_wp2_with (fail)
            go_roundw
            case rel => exact ⟨j + 1, _, by omega, by go_num, Lib.hid (HF.out.trans HYES.out), HI3, HS3⟩
            case measure => simp [intOf]; omega
      · obtain rfl : j = l := by omega
        have hr := HF.out
        have hi := HJ.out
        rw [List.drop_eq_nil_of_le (by rw [HL.out]; exact Nat.le_refl _)] at hr hi
        rw [foK_nil] at hr
        rw [wts_nil] at hi
        have HR := Lib.hid hr; have HI2 := Lib.hid hi
        clear hr hi
        go_wp2_with (fail)
        go_ret
        exact ⟨ret_bool (by rw [HR.out]), by rw [HR.out]; exact HI2.out, HS.out⟩
end Aterm
end Go.Proofs.YtolpdhkgkjnbfaaGreatDoor
namespace Go.Proofs.YtolpdhkgkjnbfaaGreatDoor
open Go.RowKit
set_option linter.unusedVariables false
set_option linter.unusedSimpArgs false
namespace Aterm
open Effect (RdI nget nget_at nget_mem ret_bool ret_i64 lt_of_block heap_alloc_new ofA)
open Rt (box_new box_at below_then)

theorem row_one {w0 W : World} {t : AT} {h : Hd} {v : V} {l g : Nat} (hT : AtIs w0 h v l t) (hr : W.rangeAt g 0 (acells h v l)) : RowS w0 W (some ⟨g, 0, none⟩) [t] := by
  obtain ⟨h1, h2, h3, h4, h5⟩ := hT
  subst h1 h2
  intro i hi
  have hi0 : i = 0 := by simp at hi; omega
  subst hi0
  exact ⟨g, 0, v, rfl, ⟨rfl, rfl, h3, h4, h5⟩, by rw [Nat.zero_mul, Nat.add_zero]; exact hr⟩
theorem allK_of1 (B : Hd → Nat → Bool) (t : AT) : allK B [t] = allT B t := by rw [allK_cons, allK_nil, Bool.and_true]
theorem row_new {W : World} {N : Nat} (hN : N = W.heap.size) {h : Hd} {v : V} {l : Nat} {ty : TypeId} : (W.alloc (.cells #[.int .u8 h.h.k, .int .u8 h.h.op, .int .i64 h.h.pl, .int .i64 h.h.n, .string h.h.name, .string h.h.arg, .string h.h.exn, .int .i64 h.rho, .slice v.ra h.rhos.length v.rc, .slice v.ea h.e.length v.ec, .int .u8 h.ty.h.k, .int .i64 h.ty.h.r, .slice v.tea h.ty.h.e.length v.tec, .slice v.tka h.ty.ks.length v.tkc, .int .u8 h.re.h.k, .int .i64 h.re.h.r, .slice v.sea h.re.h.e.length v.sec, .slice v.ska h.re.ks.length v.skc, .slice v.ka l v.kc] ty)).rangeAt N 0 (acells h v l) := by
  subst hN
  exact box_of.range
end Aterm
end Go.Proofs.YtolpdhkgkjnbfaaGreatDoor
namespace Go.Proofs.YtolpdhkgkjnbfaaGreatDoor
open Go.RowKit
set_option linter.unusedVariables false
set_option linter.unusedSimpArgs false
namespace Aterm
open Effect (RdI nget nget_at nget_mem ret_bool ret_i64 lt_of_block heap_alloc_new ofA)
open Rt (box_new box_at below_then)

theorem from1_walk (N : Nat) (x least : Int) (W : World) (hc : W.cell? ⟨N, 0, none⟩ = some (.int .i64 least)) :
    Calls Tryz.prog 77 #[.int .i64 x, .pointer (some ⟨N, 0, none⟩)] W fun e W' => e = .returned (.bool (decide (x < least))) ∧ W' = W := by
  go_enter Tryz.func77, Tryz.ntmps77
  go_wp2
  go_ret
  exact ⟨rfl, rfl⟩
set_option maxRecDepth 10000 in
set_option maxHeartbeats 3200000 in
theorem indexFrom_walk {n c : Nat} {a : Option Addr} {l : List Int} {w : World} (h : RdI w n a l) (hn : n ≤ 100000) (N : Nat) (least : Int) (hc : w.cell? ⟨N, 0, none⟩ = some (.int .i64 least)) :
    Calls Tryz.prog 95 #[.slice a n c, .func (.func 77) #[] #[.pointer (some ⟨N, 0, none⟩)]] w fun e w' => ∃ i : Int, e = .returned (.int .i64 i) ∧ (0 ≤ i ↔ ∃ x ∈ l, x < least) ∧ -1 ≤ i ∧ i ≤ 100000 ∧ w' = w := by
  have H := Lib.hid h; have HC := Lib.hid hc
  clear h hc
  go_enter Tryz.func95, Tryz.ntmps95
  go_wp2_with (fail)
  go_loopw [5, 8] (fun _ i wr => ∃ j : Nat, j ≤ n ∧ i = .int .i64 (j : Int) ∧ Hid (wr = w) ∧ Hid (∀ i, i < j → least ≤ nget l i)) (fun _ i _ => n - (intOf i).toNat)
  case atStart => exact ⟨0, Nat.zero_le _, rfl, Lib.hid rfl, Lib.hid (fun i hi => absurd hi (Nat.not_lt_zero _))⟩
  case round =>
    obtain ⟨j, hj, rfl, HW, HA⟩ := hrel
    by_cases hlt : j < n
    · have hjl : j < l.length := by rw [H.out.len]; exact hlt
      obtain ⟨b1, o1, rfl, e0⟩ := H.out.get j hjl
      rw [← HW.out] at e0
      have hf := from1_walk N (nget l j) least wr (by rw [HW.out]; exact HC.out)
      have HF := Lib.hid hf; have HJL := Lib.hid hjl
      clear hf hjl
      go_wp2_with (fail)
      refine HF.out.mono ?_
      rintro e wx ⟨rfl, hw⟩
      obtain rfl := hw.symm
      clear hw
      by_cases hx : nget l j < least
      · rw [decide_eq_true hx]
        have HX := Lib.hid hx
        clear hx
        go_wp2_with (fail)
        go_ret
        exact ⟨j, rfl, ⟨fun _ => ⟨_, nget_mem HJL.out, HX.out⟩, fun _ => by omega⟩, by omega, by omega, HW.out⟩
      · rw [decide_eq_false hx]
        have HX := Lib.hid hx
        clear hx
        go_wp2_with (fail)
        go_roundw
        case rel => exact ⟨j + 1, by omega, by go_num, HW, Lib.hid fun i hi => by
            by_cases e : i = j
            · rw [e]; have := HX.out; omega
            · exact HA.out i (by omega)⟩
        case measure => simp [intOf]; omega
    · obtain rfl : j = n := by omega
      go_wp2_with (fail)
      go_ret
      refine ⟨-1, rfl, ⟨fun h => by omega, ?_⟩, by omega, by omega, HW.out⟩
      rintro ⟨x, hx, hl⟩
      obtain ⟨i, hi, e⟩ := List.mem_iff_getElem.1 hx
      have h1 := HA.out i (by rw [← H.out.len]; exact hi)
      have := nget_at hi
      rw [List.getElem?_eq_getElem hi, e] at this
      rw [← Option.some.inj this] at h1
      omega
theorem containsFrom_walk {n c : Nat} {a : Option Addr} {l : List Int} {w : World} (h : RdI w n a l) (hn : n ≤ 100000) (N : Nat) (least : Int) (hc : w.cell? ⟨N, 0, none⟩ = some (.int .i64 least)) :
    Calls Tryz.prog 76 #[.slice a n c, .func (.func 77) #[] #[.pointer (some ⟨N, 0, none⟩)]] w fun e w' => e = .returned (.bool (decide (∃ x ∈ l, x < least))) ∧ w' = w := by
  have H := Lib.hid (indexFrom_walk (c := c) h hn N least hc)
  clear h hc
  go_enter Tryz.func76, Tryz.ntmps76
  go_wp2_with (fail)
  refine H.out.mono ?_
  rintro e wx ⟨i, rfl, hi, hi1, hi2, hw⟩
  obtain rfl := hw.symm
  clear hw
  have hd : decide (∃ x ∈ l, x < least) = decide (0 ≤ i) := decide_eq_decide.2 hi.symm
  have HD := Lib.hid hd
  clear hd hi
  go_wp2_with (fail)
  go_ret
  exact ⟨ret_bool HD.out.symm, rfl⟩
theorem from_walk {n c : Nat} {a : Option Addr} {l : List Int} {w : World} (h : RdI w n a l) (hn : n ≤ 100000) (least : Int) :
    Calls Tryz.prog 59 #[.int .i64 least, .slice a n c] w fun e w' => e = .returned (.bool (decide (∀ x ∈ l, least ≤ x))) ∧ Below w.heap.size w w' := by
  have hb : Below w.heap.size w (w.alloc (.cells #[.int .i64 least] 3)) := box_new _
  have H := Lib.hid (containsFrom_walk (c := c) (h.below hb) hn w.heap.size least (box_at (Below.refl _ _) 0 rfl)); have HB := Lib.hid hb
  have hd : decide (∀ x ∈ l, least ≤ x) = !decide (∃ x ∈ l, x < least) := by
    by_cases hx : ∃ x ∈ l, x < least
    · rw [decide_eq_true hx, decide_eq_false]
      · rfl
      · intro ha
        obtain ⟨x, h1, h2⟩ := hx
        have := ha x h1
        omega
    · rw [decide_eq_false hx, decide_eq_true]
      · rfl
      · intro x h1
        by_cases hl : x < least
        · exact absurd ⟨x, h1, hl⟩ hx
        · omega
  have HD := Lib.hid hd
  clear h hb hd
  go_enter Tryz.func59, Tryz.ntmps59
  go_wp2_with (fail)
  refine H.out.mono ?_
  rintro e wx ⟨rfl, hw⟩
  obtain rfl := hw.symm
  clear hw
  go_wp2_with (fail)
  go_ret
  exact ⟨ret_bool HD.out.symm, HB.out⟩
end Aterm
end Go.Proofs.YtolpdhkgkjnbfaaGreatDoor
