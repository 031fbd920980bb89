/- The walk of layer 2's statement on many texts. -/
import Derived.Test.YtchdplhiamognaaDoorWordsLaws
namespace Go.Proofs.YtchdplhiamognaaDoor
open Go.RowKit
namespace Words
open Chars (ret_i64 ret_bool cls el isin run spanI BytesAt Bytes bytes_new)

/-- Do the first k hold? -/
def preB (P : ByteArray → Bool) (ss : List ByteArray) (k : Nat) : Bool := (ss.take k).all P
theorem preB_succ (P : ByteArray → Bool) (ss : List ByteArray) (k : Nat) (h : k < ss.length) : preB P ss (k + 1) = (preB P ss k && P (sel ss k)) := by
  unfold preB sel
  rw [List.take_succ_eq_append_getElem h, List.all_append, List.getD_eq_getElem?_getD, List.getElem?_eq_getElem h]
  simp
theorem preB_all (P : ByteArray → Bool) (ss : List ByteArray) : preB P ss ss.length = ss.all P := by
  unfold preB
  rw [List.take_length]
theorem val_bool {a b : Bool} (h : a = b) : Value.bool a = .bool b := by rw [h]

set_option maxHeartbeats 1000000 in
theorem wordsAll_walk (p : Option Addr) (n d : Nat) (ss : List ByteArray) (w : World) (hn : ss.length = n) (hm : n ≤ maxLen) (hp : StrsAt w p ss) (hz : Sizes ss) (hl : KwLaid w) :
    Calls Tryd.prog 4 #[.slice p n d] w fun e w' => e = .returned (.bool true) ∧ Below w.heap.size w w' := by
  have HL := Lib.hid hl; have HN := Lib.hid hn; have HP := Lib.hid hp; have HZ := Lib.hid hz; have HM := Lib.hid hm
  clear hl hn hp hz
  unfold maxLen at hm
  by_cases hlen : 30 < n
  · go_enter Tryd.func4, Tryd.ntmps4
    go_wp2_with (fail)
    refine (awake_walk _ HL.out).mono ?_
    rintro e w1 ⟨rfl, hb⟩
    have HB := Lib.hid hb; clear hb
    go_wp2
    go_ret
    exact ⟨rfl, HB.out⟩
  go_enter Tryd.func4, Tryd.ntmps4
  go_wp2
  go_loopw [3, 4, 5] (fun a b i wr => ∃ k : Nat, k ≤ n ∧ i = .int .i64 k ∧ a = .bool (preB nameB ss k) ∧ b = .bool (preB exnB ss k) ∧ Below w.heap.size w wr) (fun _ _ i _ => n - (intOf i).toNat)
  case atStart => exact ⟨0, by omega, rfl, rfl, rfl, Below.refl _ _⟩
  case round =>
    obtain ⟨k, hk, rfl, rfl, rfl, hb⟩ := hrel
    have HB := Lib.hid hb
    clear hb
    by_cases hlt : k < n
    · have hk' : k < ss.length := by rw [HN.out]; exact hlt
      obtain ⟨b, o, rfl, hcs⟩ := (HP.out.below HB.out).get k hk'
      have hck := hcs k hk'
      have hsz := HZ.out _ (sel_mem hk')
      have hpn := preB_succ nameB ss k hk'
      have hpe := preB_succ exnB ss k hk'
      have HSZ := Lib.hid hsz; have HPN := Lib.hid hpn; have HPE := Lib.hid hpe; have HCK := Lib.hid hck
      unfold maxLen at hsz
      clear hcs hk' hpn hpe
      by_cases hbig : 100 < (sel ss k).size
      · go_wp2_with (fail)
        refine (awake_walk _ (HL.out.below HB.out)).mono ?_
        rintro e w1 ⟨rfl, hb⟩
        have HB1 := Lib.hid (HB.out.trans (hb.mono HB.out.size)); clear hb
        go_wp2
        go_ret
        exact ⟨rfl, HB1.out⟩
      cases h1 : preB nameB ss k
      · cases h2 : preB exnB ss k
        · have H1 := Lib.hid h1; have H2 := Lib.hid h2
          clear h1 h2
          go_wp2
          go_roundw
          case rel => exact ⟨k + 1, by omega, by go_num, val_bool (by rw [HPN.out, H1.out]; rfl), val_bool (by rw [HPE.out, H2.out]; rfl), HB.out⟩
          case measure => simp [intOf]; omega
        · have H1 := Lib.hid h1; have H2 := Lib.hid h2
          clear h1 h2
          go_wp2_with (fail)
          refine (refExn_walk (sel ss k) _ HSZ.out).mono ?_
          rintro e w1 ⟨rfl, hb⟩
          have HB1 := Lib.hid (HB.out.trans (hb.mono HB.out.size)); clear hb
          go_wp2
          go_roundw
          case rel => exact ⟨k + 1, by omega, by go_num, val_bool (by rw [HPN.out, H1.out]; rfl), val_bool (by rw [HPE.out, H2.out]; rfl), HB1.out⟩
          case measure => simp [intOf]; omega
      · cases h2 : preB exnB ss k
        · have H1 := Lib.hid h1; have H2 := Lib.hid h2
          clear h1 h2
          go_wp2_with (fail)
          refine (refName_walk (sel ss k) _ HSZ.out).mono ?_
          rintro e w1 ⟨rfl, hb⟩
          have HB1 := Lib.hid (HB.out.trans (hb.mono HB.out.size)); clear hb
          go_wp2
          go_roundw
          case rel => exact ⟨k + 1, by omega, by go_num, val_bool (by rw [HPN.out, H1.out]; rfl), val_bool (by rw [HPE.out, H2.out]; rfl), HB1.out⟩
          case measure => simp [intOf]; omega
        · have H1 := Lib.hid h1; have H2 := Lib.hid h2
          clear h1 h2
          go_wp2_with (fail)
          refine (refName_walk (sel ss k) _ HSZ.out).mono ?_
          rintro e w1 ⟨rfl, hb⟩
          have hlb : b < wr.heap.size := World.block_lt_of_cell? wr _ HCK.out
          have hck1 := (hb.cell (p := ⟨b, o + k, none⟩) hlb).trans HCK.out
          have HB1 := Lib.hid (HB.out.trans (hb.mono HB.out.size)); clear hb hlb
          go_wp2_with (fail)
          refine (refExn_walk (sel ss k) _ HSZ.out).mono ?_
          rintro e w2 ⟨rfl, hb⟩
          have HB2 := Lib.hid (HB1.out.trans (hb.mono HB1.out.size)); clear hb hck1
          go_wp2
          go_roundw
          case rel => exact ⟨k + 1, by omega, by go_num, val_bool (by rw [HPN.out, H1.out]; rfl), val_bool (by rw [HPE.out, H2.out]; rfl), HB2.out⟩
          case measure => simp [intOf]; omega
    · obtain rfl : k = n := by omega
      have h1 : preB nameB ss k = ss.all nameB := by rw [← HN.out]; exact preB_all _ _
      have h2 : preB exnB ss k = ss.all exnB := by rw [← HN.out]; exact preB_all _ _
      rw [h1, h2]
      clear h1 h2
      go_wp2_with (fail)
      refine (name_walk p k d ss _ HN.out HM.out (HP.out.below HB.out) HZ.out (HL.out.below HB.out)).mono ?_
      rintro e w1 ⟨rfl, hb⟩
      have HB1 := Lib.hid (HB.out.trans (hb.mono HB.out.size)); clear hb
      generalize ss.all nameB = X
      go_wp2_with (fail)
      refine (exn_walk p k d ss _ HN.out HM.out (HP.out.below HB1.out) HZ.out).mono ?_
      rintro e w2 ⟨rfl, hb⟩
      have HB2 := Lib.hid (HB1.out.trans (hb.mono HB1.out.size)); clear hb
      generalize ss.all exnB = Y
      go_wp2_with (fail)
      refine (awake_walk _ (HL.out.below HB2.out)).mono ?_
      rintro e w8 ⟨rfl, hb⟩
      have HB8 := Lib.hid (HB2.out.trans (hb.mono HB2.out.size)); clear hb
      go_wp2
      go_ret
      exact ⟨rfl, HB8.out⟩
end Words
end Go.Proofs.YtchdplhiamognaaDoor
