/- The walk of layer 3's example, and of its statement on any text's tokens. -/
import Derived.Test.YtklibniadcpjhaaDoorTokenRefLex
import Derived.Test.YtklibniadcpjhaaDoorTokenSame
import Derived.Test.YtklibniadcpjhaaDoorTokenJoin
import Derived.Test.YtklibniadcpjhaaDoorViews
import Derived.Lib.SlBytesConst
namespace Go.Proofs.YtklibniadcpjhaaDoor
open Go.RowKit
set_option linter.unusedVariables false
namespace Token
open Chars (ret_i64 ret_bool ret_u8 cls el isin run spanI BytesAt Bytes bytes_new)
open Words (KwLaid NumLaid Laid2)

def exXs : List Int := [120, 58, 61, 49]
def exT : List Tok := [⟨2, ⟨#[120]⟩, 0⟩, ⟨5, ⟨#[58, 61]⟩, 1⟩, ⟨1, ⟨#[49]⟩, 3⟩]
theorem ex_lex : lex exXs 0 = .inr exT := by kernel_rfl
theorem ex_join : ((jb (texts (exT ++ [endT 4]))).toList == [120, 32, 58, 61, 32, 49, 32]) = true := by
  rw [Lib.toList_data, jb_list]
  decide +kernel
theorem bytes_ex : Bytes exXs := by
  intro x hx
  simp [exXs] at hx
  omega

set_option maxRecDepth 10000 in
set_option maxHeartbeats 1600000 in
theorem awake_walk (w : World) (hl : Laid2 w) : Calls Tryd.prog 8 #[] w fun e w' => e = .returned (.bool true) ∧ Below w.heap.size w w' := by
  have HL := Lib.hid hl; clear hl
  have kc := fun (w : World) (C : Array Value) (n c : Nat) => Lib.run_convert_bytes_const (P := Tryd.prog) w 22 5 C n c Tryd.underlying22 Tryd.underlying5
  go_enter Tryd.func8, Tryd.ntmps8
  go_wp2_with (fail)
  refine (lex_walk _ 4 4 exXs _ ⟨rfl, Nat.le_refl _, by unfold maxLen; omega, bytes_new _ _ _ _ _ _ rfl rfl, bytes_ex⟩ (HL.out.below ((Below.refl _ _).alloc (Nat.le_refl _) _))).mono ?_
  rintro e w1 ⟨hb, hcase⟩
  have HB := Lib.hid (((Below.refl w.heap.size w).alloc (Nat.le_refl _) _).trans (hb.mono (by simp : w.heap.size ≤ _)))
  clear hb
  rcases hcase with ⟨h, _⟩ | ⟨_, _, _, _, h, _⟩ | ⟨_, ts, g, c, h, rfl, hat⟩
  · exfalso; simp [exXs] at h
  · rw [ex_lex] at h; cases h
  · rw [ex_lex] at h
    obtain rfl : exT = ts := by injection h
    have c1 : w1.cell? ⟨g, 4, none⟩ = some (.string ⟨#[58, 61]⟩) := (hat 1 (by decide)).2.1
    have c2 : w1.cell? ⟨g, 9, none⟩ = some (.int .u8 6) := (hat 3 (by decide)).1
    have hat' : ToksAt w1 g (exT ++ [endT 4]) := hat
    have hj := join_walk (some ⟨g, 0, none⟩) 4 c (texts (exT ++ [endT 4])) w1 rfl (by omega) hat'.in_ (by decide +kernel)
    have he := ex_join
    have hlen : exT.length + 1 = 4 := rfl
    rw [hlen]
    obtain ⟨J, hJ⟩ : ∃ J, J = jb (texts (exT ++ [endT 4])) := ⟨_, rfl⟩
    rw [← hJ] at hj he
    have HJ := Lib.hid hj
    clear hat hat' hj hJ h hlen
    go_wp2_with (fail)
    refine HJ.out.mono ?_
    rintro e w2 ⟨rfl, hb2⟩
    have HB2 := Lib.hid (HB.out.trans (hb2.mono HB.out.size))
    clear hb2 c1 c2
    go_wp2
    go_ret
    exact ⟨rfl, HB2.out⟩

set_option maxRecDepth 10000 in
set_option maxHeartbeats 3200000 in
theorem tokenCuts_walk (p : Option Addr) (n d : Nat) (xs : List Int) (w : World) (hb : BytesIn w p n d xs) (hl : Laid2 w) :
    Calls Tryd.prog 3 #[.slice p n d] w fun e w' => e = .returned (.bool true) ∧ Below w.heap.size w w' := by
  have hnl := hb.len.1
  have HB := Lib.hid hb; have HL := Lib.hid hl
  clear hb hl
  by_cases hbig : 1000 < n
  · go_enter Tryd.func3, Tryd.ntmps3
    go_wp2_with (fail)
    refine (awake_walk _ HL.out).mono ?_
    rintro e w1 ⟨rfl, hb⟩
    have HB1 := Lib.hid hb; clear hb
    go_wp2
    go_ret
    exact ⟨rfl, HB1.out⟩
  go_enter Tryd.func3, Tryd.ntmps3
  go_wp2_with (fail)
  refine (lex_walk p n d xs _ HB.out HL.out).mono ?_
  rintro e w1 ⟨hb1, hc1⟩
  have HB1 := Lib.hid hb1; clear hb1
  have hxn : xs.length ≤ 65536 := by rw [HB.out.1]; omega
  have HXN := Lib.hid hxn; clear hxn
  have href := refLex_walk p n d xs w1 (HB.out.below HB1.out)
  have HREF := Lib.hid href
  clear href
  rcases hc1 with ⟨h, _⟩ | ⟨_, q1, c1, k, h, rfl⟩ | ⟨_, ts, g, c, h, rfl, hat⟩
  · exact absurd HXN.out (by omega)
  · have H1 := Lib.hid h; clear h
    go_wp2_with (fail)
    refine HREF.out.mono ?_
    rintro e w2 ⟨hb2, hc2⟩
    have HB2 := Lib.hid (HB1.out.trans (hb2.mono HB1.out.size)); clear hb2
    rcases hc2 with ⟨h, _⟩ | ⟨_, q2, c2, k', h, rfl⟩ | ⟨_, ts, g, c, h, rfl, hat⟩
    · exact absurd HXN.out (by omega)
    · rw [H1.out] at h
      obtain rfl : k = k' := by injection h
      go_wp2_with (fail)
      refine (same_none _ _ _ _ _).mono ?_
      rintro e w3 ⟨rfl, hb3⟩
      have HB3 := Lib.hid (HB2.out.trans (hb3.mono HB2.out.size)); clear hb3
      go_wp2_with (fail)
      refine (awake_walk _ (HL.out.below HB3.out)).mono ?_
      rintro e w4 ⟨rfl, hb4⟩
      have HB4 := Lib.hid (HB3.out.trans (hb4.mono HB3.out.size)); clear hb4
      go_wp2
      go_ret
      exact ⟨rfl, HB4.out⟩
    · rw [H1.out] at h; cases h
  · have H1 := Lib.hid h; have HAT := Lib.hid hat; clear h hat
    go_wp2_with (fail)
    refine HREF.out.mono ?_
    rintro e w2 ⟨hb2, hc2⟩
    have HB2 := Lib.hid (HB1.out.trans (hb2.mono HB1.out.size))
    have HAT2 := Lib.hid (HAT.out.below hb2)
    clear hb2
    rcases hc2 with ⟨h, _⟩ | ⟨_, q2, c2, k', h, rfl⟩ | ⟨_, ts', g', c', h, rfl, hat'⟩
    · exact absurd HXN.out (by omega)
    · rw [H1.out] at h; cases h
    · rw [H1.out] at h
      obtain rfl : ts = ts' := by injection h
      have hat := HAT2.out
      have hbnd : (ts ++ [endT xs.length]).length ≤ 100000 := by
        rw [List.length_append]; have := lex_len H1.out; have := HXN.out; simp; omega
      have hsame := same_toks g g' c c' (ts ++ [endT xs.length]) w2 hbnd hat hat'
      rw [List.length_append] at hsame
      have HS := Lib.hid hsame
      clear hsame hat hat' hbnd h
      go_wp2_with (fail)
      refine HS.out.mono ?_
      rintro e w3 ⟨rfl, hb3⟩
      have HB3 := Lib.hid (HB2.out.trans (hb3.mono HB2.out.size)); clear hb3
      go_wp2_with (fail)
      refine (awake_walk _ (HL.out.below HB3.out)).mono ?_
      rintro e w4 ⟨rfl, hb4⟩
      have HB4 := Lib.hid (HB3.out.trans (hb4.mono HB3.out.size)); clear hb4
      go_wp2
      go_ret
      exact ⟨rfl, HB4.out⟩
end Token
end Go.Proofs.YtklibniadcpjhaaDoor
