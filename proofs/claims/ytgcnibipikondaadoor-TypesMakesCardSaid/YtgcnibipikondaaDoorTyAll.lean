/- The program's way through all nodes of types, with what tells of one node and reads no state: May, Closed, Arrows. -/
import Derived.Test.YtgcnibipikondaaDoorTyFits
import Derived.Test.YtgcnibipikondaaDoorTyRow
namespace Go.Proofs.YtgcnibipikondaaDoor
open Go.RowKit
set_option linter.unusedVariables false
namespace Types

/-- What is asked of the one that is handed each node. -/
def Tells (f : Nat) (B : Hd → Nat → Bool) : Prop := ∀ (h : Hd) (p : Option Addr) (l c : Nat) (w : World), HdOk h → l ≤ maxLen → KidsLaid w →
  Calls Tryd.prog f #[.agg #[.int .u8 h.k, .int .i64 h.v, .slice p l c]] w fun e w' => e = .returned (.bool (B h l)) ∧ Below w.heap.size w w'
theorem box_at {w W : World} {cs : Array Value} {ty : TypeId} (hb : Below (w.alloc (.cells cs ty)).heap.size (w.alloc (.cells cs ty)) W) (j : Nat) {v : Value} (hv : cs[j]? = some v) : W.cell? ⟨w.heap.size, j, none⟩ = some v := by
  have hlt : w.heap.size < (w.alloc (.cells cs ty)).heap.size := by simp
  rw [hb.cell (p := ⟨w.heap.size, j, none⟩) hlt, World.cell?_alloc_mark, hv]
theorem box_new {w : World} (O : Obj) : Below w.heap.size w (w.alloc O) := (Below.refl _ _).alloc (Nat.le_refl _) O
theorem below_then {B : Nat} {a w1 w2 : World} (h : Below B a w1) (hb : Below w1.heap.size w1 w2) (hB : B ≤ w1.heap.size) : Below B a w2 := h.trans (hb.mono hB)

set_option maxRecDepth 10000 in
set_option maxHeartbeats 6400000 in
theorem allFits_walk (B : Hd → Nat → Bool) (hC : Tells 30 B) :
    ∀ (m : Nat) (ts : List Ty) (p : Option Addr) (l d : Nat) (w : World), wts ts ≤ m → ts.length = l → l ≤ maxLen → Kids w p ts → KidsLaid w →
    Calls Tryd.prog 29 #[.func (.func 30) #[] #[], .slice p l d] w fun e w' => e = .returned (.bool (allK B ts)) ∧ Below w.heap.size w w' := by
  have GC := Lib.hid hC
  clear hC
  intro m
  induction m using Nat.strongRecOn with
  | _ m ih =>
    intro ts p l d w hm hl hlm hk hi
    unfold maxLen at hlm
    have HM := Lib.hid hm; have HL := Lib.hid hl; have HK := Lib.hid hk; have HI := Lib.hid hi; have IH := Lib.hid ih
    clear hm hl hk hi ih
    go_enter Tryd.func29, Tryd.ntmps29
    go_wp2_with (fail)
    go_loopw [6, 9] (fun _ i wr => ∃ j : Nat, j ≤ l ∧ i = .int .i64 j ∧ Hid (allK B ts = allK B (ts.drop j)) ∧ Hid (Below w.heap.size w wr)) (fun _ i _ => l - (intOf i).toNat)
    case atStart => exact ⟨0, Nat.zero_le _, rfl, Lib.hid (by rw [List.drop_zero]), Lib.hid (Below.refl _ _)⟩
    case round =>
      obtain ⟨j, hj, rfl, HF, HS⟩ := hrel
      by_cases hlt : j < l
      · have hjk : j < ts.length := by rw [HL.out]; exact hlt
        obtain ⟨b, o, q, c', rfl, hkid, c0, c1, c2⟩ := (HK.out.stay HS.out).get j hjk
        have hwm : wts (tget ts j).ks < wts ts := by have h1 := wts_get hjk; have h2 := wt_ks (tget ts j); omega
        have hla := HI.out.below HS.out
        have HJK := Lib.hid hjk; have HKID := Lib.hid hkid; have HWM := Lib.hid hwm; have HLA := Lib.hid hla
        clear hjk hkid hwm hla
        go_wp2_with (fail)
        refine (GC.out _ _ _ _ _ HKID.out.ok (Nat.le_trans HKID.out.cap.1 HKID.out.cap.2) (HLA.out.below (box_new _))).mono ?_
        rintro e w1 ⟨rfl, hb1⟩
        have b2 := box_at hb1 2 rfl
        have hb1' := (box_new (w := wr) (.cells #[.int .u8 (tget ts j).h.k, .int .i64 (tget ts j).h.v, .slice q (tget ts j).ks.length c'] 24)).trans (hb1.mono (by simp))
        have HB1 := Lib.hid (below_then HS.out hb1' HS.out.size)
        have HW1 := Lib.hid hb1'
        clear hb1 hb1' c0 c1 c2
        cases hb : B (tget ts j).h (tget ts j).ks.length
        · have hno := allK_no B HJK.out hb
          have HNO := Lib.hid hno
          clear hno hb
          go_wp2
          go_ret
          exact ⟨ret_bool (by rw [HF.out, HNO.out]), HB1.out⟩
        · have HB := Lib.hid hb
          clear hb
          go_wp2_with (fail)
          refine (IH.out (wts (tget ts j).ks) (by have := HWM.out; have := HM.out; omega) (tget ts j).ks q _ c' _ (Nat.le_refl _) rfl (Nat.le_trans HKID.out.cap.1 HKID.out.cap.2) (HKID.out.below HW1.out).kids (HLA.out.below HW1.out)).mono ?_
          rintro e w2 ⟨rfl, hb2⟩
          have HB2 := Lib.hid (below_then HB1.out hb2 HB1.out.size)
          clear hb2 b2
          cases hk : allK B (tget ts j).ks
          · have hno := allK_kno B HJK.out hk
            have HNO := Lib.hid hno
            clear hno hk
            go_wp2
            go_ret
            exact ⟨ret_bool (by rw [HF.out, HNO.out]), HB2.out⟩
          · have hyes := allK_yes B HJK.out HB.out hk
            have HYES := Lib.hid hyes
            clear hyes hk
            go_wp2
            go_roundw
            case rel => exact ⟨j + 1, by omega, by go_num, Lib.hid (HF.out.trans HYES.out), HB2⟩
            case measure => simp [intOf]; omega
      · obtain rfl : j = l := by omega
        have hr := HF.out
        rw [List.drop_eq_nil_of_le (by rw [HL.out]; exact Nat.le_refl _), allK_nil] at hr
        have HR := Lib.hid hr
        clear hr
        go_wp2
        go_ret
        exact ⟨ret_bool (by rw [HR.out]), HS.out⟩

set_option maxRecDepth 10000 in
set_option maxHeartbeats 6400000 in
theorem allClosed_walk (B : Hd → Nat → Bool) (hC : Tells 31 B) :
    ∀ (m : Nat) (ts : List Ty) (p : Option Addr) (l d : Nat) (w : World), wts ts ≤ m → ts.length = l → l ≤ maxLen → Kids w p ts → KidsLaid w →
    Calls Tryd.prog 29 #[.func (.func 31) #[] #[], .slice p l d] w fun e w' => e = .returned (.bool (allK B ts)) ∧ Below w.heap.size w w' := by
  have GC := Lib.hid hC
  clear hC
  intro m
  induction m using Nat.strongRecOn with
  | _ m ih =>
    intro ts p l d w hm hl hlm hk hi
    unfold maxLen at hlm
    have HM := Lib.hid hm; have HL := Lib.hid hl; have HK := Lib.hid hk; have HI := Lib.hid hi; have IH := Lib.hid ih
    clear hm hl hk hi ih
    go_enter Tryd.func29, Tryd.ntmps29
    go_wp2_with (fail)
    go_loopw [6, 9] (fun _ i wr => ∃ j : Nat, j ≤ l ∧ i = .int .i64 j ∧ Hid (allK B ts = allK B (ts.drop j)) ∧ Hid (Below w.heap.size w wr)) (fun _ i _ => l - (intOf i).toNat)
    case atStart => exact ⟨0, Nat.zero_le _, rfl, Lib.hid (by rw [List.drop_zero]), Lib.hid (Below.refl _ _)⟩
    case round =>
      obtain ⟨j, hj, rfl, HF, HS⟩ := hrel
      by_cases hlt : j < l
      · have hjk : j < ts.length := by rw [HL.out]; exact hlt
        obtain ⟨b, o, q, c', rfl, hkid, c0, c1, c2⟩ := (HK.out.stay HS.out).get j hjk
        have hwm : wts (tget ts j).ks < wts ts := by have h1 := wts_get hjk; have h2 := wt_ks (tget ts j); omega
        have hla := HI.out.below HS.out
        have HJK := Lib.hid hjk; have HKID := Lib.hid hkid; have HWM := Lib.hid hwm; have HLA := Lib.hid hla
        clear hjk hkid hwm hla
        go_wp2_with (fail)
        refine (GC.out _ _ _ _ _ HKID.out.ok (Nat.le_trans HKID.out.cap.1 HKID.out.cap.2) (HLA.out.below (box_new _))).mono ?_
        rintro e w1 ⟨rfl, hb1⟩
        have b2 := box_at hb1 2 rfl
        have hb1' := (box_new (w := wr) (.cells #[.int .u8 (tget ts j).h.k, .int .i64 (tget ts j).h.v, .slice q (tget ts j).ks.length c'] 24)).trans (hb1.mono (by simp))
        have HB1 := Lib.hid (below_then HS.out hb1' HS.out.size)
        have HW1 := Lib.hid hb1'
        clear hb1 hb1' c0 c1 c2
        cases hb : B (tget ts j).h (tget ts j).ks.length
        · have hno := allK_no B HJK.out hb
          have HNO := Lib.hid hno
          clear hno hb
          go_wp2
          go_ret
          exact ⟨ret_bool (by rw [HF.out, HNO.out]), HB1.out⟩
        · have HB := Lib.hid hb
          clear hb
          go_wp2_with (fail)
          refine (IH.out (wts (tget ts j).ks) (by have := HWM.out; have := HM.out; omega) (tget ts j).ks q _ c' _ (Nat.le_refl _) rfl (Nat.le_trans HKID.out.cap.1 HKID.out.cap.2) (HKID.out.below HW1.out).kids (HLA.out.below HW1.out)).mono ?_
          rintro e w2 ⟨rfl, hb2⟩
          have HB2 := Lib.hid (below_then HB1.out hb2 HB1.out.size)
          clear hb2 b2
          cases hk : allK B (tget ts j).ks
          · have hno := allK_kno B HJK.out hk
            have HNO := Lib.hid hno
            clear hno hk
            go_wp2
            go_ret
            exact ⟨ret_bool (by rw [HF.out, HNO.out]), HB2.out⟩
          · have hyes := allK_yes B HJK.out HB.out hk
            have HYES := Lib.hid hyes
            clear hyes hk
            go_wp2
            go_roundw
            case rel => exact ⟨j + 1, by omega, by go_num, Lib.hid (HF.out.trans HYES.out), HB2⟩
            case measure => simp [intOf]; omega
      · obtain rfl : j = l := by omega
        have hr := HF.out
        rw [List.drop_eq_nil_of_le (by rw [HL.out]; exact Nat.le_refl _), allK_nil] at hr
        have HR := Lib.hid hr
        clear hr
        go_wp2
        go_ret
        exact ⟨ret_bool (by rw [HR.out]), HS.out⟩

set_option maxRecDepth 10000 in
set_option maxHeartbeats 6400000 in
theorem allArrows_walk (B : Hd → Nat → Bool) (hC : Tells 32 B) :
    ∀ (m : Nat) (ts : List Ty) (p : Option Addr) (l d : Nat) (w : World), wts ts ≤ m → ts.length = l → l ≤ maxLen → Kids w p ts → KidsLaid w →
    Calls Tryd.prog 29 #[.func (.func 32) #[] #[], .slice p l d] w fun e w' => e = .returned (.bool (allK B ts)) ∧ Below w.heap.size w w' := by
  have GC := Lib.hid hC
  clear hC
  intro m
  induction m using Nat.strongRecOn with
  | _ m ih =>
    intro ts p l d w hm hl hlm hk hi
    unfold maxLen at hlm
    have HM := Lib.hid hm; have HL := Lib.hid hl; have HK := Lib.hid hk; have HI := Lib.hid hi; have IH := Lib.hid ih
    clear hm hl hk hi ih
    go_enter Tryd.func29, Tryd.ntmps29
    go_wp2_with (fail)
    go_loopw [6, 9] (fun _ i wr => ∃ j : Nat, j ≤ l ∧ i = .int .i64 j ∧ Hid (allK B ts = allK B (ts.drop j)) ∧ Hid (Below w.heap.size w wr)) (fun _ i _ => l - (intOf i).toNat)
    case atStart => exact ⟨0, Nat.zero_le _, rfl, Lib.hid (by rw [List.drop_zero]), Lib.hid (Below.refl _ _)⟩
    case round =>
      obtain ⟨j, hj, rfl, HF, HS⟩ := hrel
      by_cases hlt : j < l
      · have hjk : j < ts.length := by rw [HL.out]; exact hlt
        obtain ⟨b, o, q, c', rfl, hkid, c0, c1, c2⟩ := (HK.out.stay HS.out).get j hjk
        have hwm : wts (tget ts j).ks < wts ts := by have h1 := wts_get hjk; have h2 := wt_ks (tget ts j); omega
        have hla := HI.out.below HS.out
        have HJK := Lib.hid hjk; have HKID := Lib.hid hkid; have HWM := Lib.hid hwm; have HLA := Lib.hid hla
        clear hjk hkid hwm hla
        go_wp2_with (fail)
        refine (GC.out _ _ _ _ _ HKID.out.ok (Nat.le_trans HKID.out.cap.1 HKID.out.cap.2) (HLA.out.below (box_new _))).mono ?_
        rintro e w1 ⟨rfl, hb1⟩
        have b2 := box_at hb1 2 rfl
        have hb1' := (box_new (w := wr) (.cells #[.int .u8 (tget ts j).h.k, .int .i64 (tget ts j).h.v, .slice q (tget ts j).ks.length c'] 24)).trans (hb1.mono (by simp))
        have HB1 := Lib.hid (below_then HS.out hb1' HS.out.size)
        have HW1 := Lib.hid hb1'
        clear hb1 hb1' c0 c1 c2
        cases hb : B (tget ts j).h (tget ts j).ks.length
        · have hno := allK_no B HJK.out hb
          have HNO := Lib.hid hno
          clear hno hb
          go_wp2
          go_ret
          exact ⟨ret_bool (by rw [HF.out, HNO.out]), HB1.out⟩
        · have HB := Lib.hid hb
          clear hb
          go_wp2_with (fail)
          refine (IH.out (wts (tget ts j).ks) (by have := HWM.out; have := HM.out; omega) (tget ts j).ks q _ c' _ (Nat.le_refl _) rfl (Nat.le_trans HKID.out.cap.1 HKID.out.cap.2) (HKID.out.below HW1.out).kids (HLA.out.below HW1.out)).mono ?_
          rintro e w2 ⟨rfl, hb2⟩
          have HB2 := Lib.hid (below_then HB1.out hb2 HB1.out.size)
          clear hb2 b2
          cases hk : allK B (tget ts j).ks
          · have hno := allK_kno B HJK.out hk
            have HNO := Lib.hid hno
            clear hno hk
            go_wp2
            go_ret
            exact ⟨ret_bool (by rw [HF.out, HNO.out]), HB2.out⟩
          · have hyes := allK_yes B HJK.out HB.out hk
            have HYES := Lib.hid hyes
            clear hyes hk
            go_wp2
            go_roundw
            case rel => exact ⟨j + 1, by omega, by go_num, Lib.hid (HF.out.trans HYES.out), HB2⟩
            case measure => simp [intOf]; omega
      · obtain rfl : j = l := by omega
        have hr := HF.out
        rw [List.drop_eq_nil_of_le (by rw [HL.out]; exact Nat.le_refl _), allK_nil] at hr
        have HR := Lib.hid hr
        clear hr
        go_wp2
        go_ret
        exact ⟨ret_bool (by rw [HR.out]), HS.out⟩
end Types
end Go.Proofs.YtgcnibipikondaaDoor
