/- Whether a program is closed: the program's answer. -/
import Derived.Test.YtkcadkjpneoobaaDoorScopeI
import Derived.Test.YtkcadkjpneoobaaDoorGTermC
import Derived.BigQuiet
namespace Go.Proofs.YtkcadkjpneoobaaDoor
open Go.RowKit
set_option linter.unusedVariables false
set_option linter.unusedSimpArgs false
namespace Scope
open Term (Tm Hd TmIs ret_bool ret_i64 tget wt wts wts_cons wts_nil drop_tget tcells mayT)
open Words (str_no str_yes)

/-- An exception that is declared: its text, its place. -/
structure Ex where
  s : ByteArray
  a : Int
def eget (xs : List Ex) (i : Nat) : Ex := xs.getD i ⟨⟨#[]⟩, 0⟩
def names (xs : List Ex) : List ByteArray := xs.map (·.s)
def ExIn (w : World) (p : Option Addr) (xs : List Ex) : Prop :=
  xs = [] ∨ ∃ b o, p = some ⟨b, o, none⟩ ∧ ∀ i, i < xs.length → ∃ K : Int, w.cell? ⟨b, o + i * 3, none⟩ = some (.int .u8 K) ∧ w.cell? ⟨b, o + i * 3 + 1, none⟩ = some (.string (eget xs i).s) ∧ w.cell? ⟨b, o + i * 3 + 2, none⟩ = some (.int .i64 (eget xs i).a)
theorem ExIn.get {w : World} {p : Option Addr} {xs : List Ex} (h : ExIn w p xs) (k : Nat) (hk : k < xs.length) :
    ∃ b o, p = some ⟨b, o, none⟩ ∧ ∃ K : Int, w.cell? ⟨b, o + k * 3, none⟩ = some (.int .u8 K) ∧ w.cell? ⟨b, o + k * 3 + 1, none⟩ = some (.string (eget xs k).s) ∧ w.cell? ⟨b, o + k * 3 + 2, none⟩ = some (.int .i64 (eget xs k).a) := by
  rcases h with rfl | ⟨b, o, hp, h⟩
  · simp at hk
  · exact ⟨b, o, hp, h k hk⟩
theorem ExIn.below {w W : World} {p : Option Addr} {xs : List Ex} (h : ExIn w p xs) (hb : Below w.heap.size w W) : ExIn W p xs := by
  rcases h with h | ⟨b, o, hp, hc⟩
  · exact .inl h
  · refine .inr ⟨b, o, hp, fun i hi => ?_⟩
    obtain ⟨K, h0, h1, h2⟩ := hc i hi
    have hl : b < w.heap.size := World.block_lt_of_cell? w _ h0
    exact ⟨K, (hb.cell (p := ⟨b, o + i * 3, none⟩) hl).trans h0, (hb.cell (p := ⟨b, o + i * 3 + 1, none⟩) hl).trans h1, (hb.cell (p := ⟨b, o + i * 3 + 2, none⟩) hl).trans h2⟩
/-- The first exception whose text stands ahead of it. -/
def dupF : List ByteArray → List Ex → Option Int
  | _, [] => none
  | ds, x :: xs => if hasB ds x.s = true then some x.a else dupF (ds ++ [x.s]) xs
theorem drop_eget (xs : List Ex) (j : Nat) (hj : j < xs.length) : xs.drop j = eget xs j :: xs.drop (j + 1) := by
  rw [List.drop_eq_getElem_cons hj]
  unfold eget
  rw [List.getD_eq_getElem?_getD, List.getElem?_eq_getElem hj]
  rfl
theorem take_eget (xs : List Ex) (j : Nat) (hj : j < xs.length) : names (xs.take (j + 1)) = names (xs.take j) ++ [(eget xs j).s] := by
  unfold names eget
  rw [List.take_add_one, List.map_append, List.getElem?_eq_getElem hj, List.getD_eq_getElem?_getD, List.getElem?_eq_getElem hj]
  rfl
/-- What a program comes to: a place, an error's number. -/
def closedF (xs : List Ex) (t : Tm) : Int × Int :=
  if mayT t = false then (0, 1) else if 64 < xs.length then ((eget xs 64).a, 3) else
  match dupF [] xs with
  | some a => (a, 4)
  | none => (scT (clB (names xs)) (clS (names xs)) t [] (0, 0)).2
theorem cells9' {W : World} {N : Nat} {a0 a1 a2 a3 a4 a5 a6 a7 a8 : Value} {ty : TypeId} (h : W.heap[N]? = some (.cells #[a0, a1, a2, a3, a4, a5, a6, a7, a8] ty (0, 0))) :
    (W.cell? ⟨N, 0, none⟩ = some a0 ∧ W.cell? ⟨N, 1, none⟩ = some a1 ∧ W.cell? ⟨N, 2, none⟩ = some a2 ∧ W.cell? ⟨N, 3, none⟩ = some a3 ∧ W.cell? ⟨N, 4, none⟩ = some a4 ∧ W.cell? ⟨N, 5, none⟩ = some a5 ∧ W.cell? ⟨N, 6, none⟩ = some a6 ∧ W.cell? ⟨N, 7, none⟩ = some a7 ∧ W.cell? ⟨N, 8, none⟩ = some a8) ∧
    (W.frozen? ⟨N, 0, none⟩ = false ∧ W.frozen? ⟨N, 1, none⟩ = false ∧ W.frozen? ⟨N, 2, none⟩ = false ∧ W.frozen? ⟨N, 3, none⟩ = false ∧ W.frozen? ⟨N, 4, none⟩ = false ∧ W.frozen? ⟨N, 5, none⟩ = false ∧ W.frozen? ⟨N, 6, none⟩ = false ∧ W.frozen? ⟨N, 7, none⟩ = false ∧ W.frozen? ⟨N, 8, none⟩ = false) := by
  simp [World.cell?, World.frozen?, h]
theorem cells3' {W : World} {N : Nat} {a0 a1 a2 : Value} {ty : TypeId} (h : W.heap[N]? = some (.cells #[a0, a1, a2] ty (0, 0))) :
    (W.cell? ⟨N, 0, none⟩ = some a0 ∧ W.cell? ⟨N, 1, none⟩ = some a1 ∧ W.cell? ⟨N, 2, none⟩ = some a2) ∧ (W.frozen? ⟨N, 0, none⟩ = false ∧ W.frozen? ⟨N, 1, none⟩ = false ∧ W.frozen? ⟨N, 2, none⟩ = false) := by
  simp [World.cell?, World.frozen?, h]
theorem cells1' {W : World} {N : Nat} {a0 : Value} {ty : TypeId} (h : W.heap[N]? = some (.cells #[a0] ty (0, 0))) : W.cell? ⟨N, 0, none⟩ = some a0 ∧ W.frozen? ⟨N, 0, none⟩ = false := by
  simp [World.cell?, World.frozen?, h]
theorem may_wt {t : Tm} (h : mayT t = true) : wt t ≤ 4000 := by
  unfold mayT at h
  rw [Bool.and_eq_true] at h
  exact of_decide_eq_true h.1

theorem Tops.of_tm {w0 W : World} {L : Nat} {h : Hd} {t : Tm} {q : Option Addr} {l c : Nat} (hT : TmIs w0 h q l c t) (hb : W.heap[L]? = some (.cells #[.int .u8 h.k, .int .u8 h.op, .int .i64 h.pl, .int .i64 h.n, .string h.name, .string h.arg, .string h.exn, .slice q l c] 27 (0, 0))) : Tops w0 W (some ⟨L, 0, none⟩) [t] := by
  obtain rfl := hT.head
  obtain rfl := hT.len
  exact Tops.of_box hT hb
structure DcI (w1 : World) (xs : List Ex) (j : Nat) (wr : World) : Prop where
  base : Below w1.heap.size w1 wr
  decl : ∃ v, wr.heap[w1.heap.size]? = some (.cells #[v] 50 (0, 0)) ∧ Nm wr w1.heap.size v (names (xs.take j))
  dup : dupF [] xs = dupF (names (xs.take j)) (xs.drop j)
theorem DcI.below {w1 : World} {xs : List Ex} {j : Nat} {wr W : World} (h : DcI w1 xs j wr) (hb : Below wr.heap.size wr W) : DcI w1 xs j W := by
  obtain ⟨v, h1, h2⟩ := h.decl
  exact ⟨h.base.trans (hb.mono h.base.size), ⟨v, (hb.block _ (lt_of_block h1)).trans h1, h2.keep (Keep.of_below (Z := fun _ => False) hb) (fun _ _ h => h)⟩, h.dup⟩
theorem names_len (xs : List Ex) : (names xs).length = xs.length := by unfold names; simp
theorem DcI.put {w1 : World} {xs : List Ex} {j : Nat} {wr W3 : World} {u v : Value} (h : DcI w1 xs j wr) (hj : j < xs.length) (hu : wr.heap[w1.heap.size]? = some (.cells #[u] 50 (0, 0))) (hh : hasB (names (xs.take j)) (eget xs j).s = false)
    (hn : Nm W3 w1.heap.size v (names (xs.take j) ++ [(eget xs j).s])) (hk : Keep (fun _ => False) u wr W3) : DcI w1 xs (j + 1) (W3.setCell ⟨w1.heap.size, 0, none⟩ v) := by
  obtain ⟨u0, g1, g2⟩ := h.decl
  have hu0 : u = u0 := box_val hu g1
  subst hu0
  have huF := ne_ty g2 g1 (by decide)
  have e2 := (hk.block _ (lt_of_block g1) (fun h => h) huF).trans g1
  have hvF := ne_ty hn e2 (by decide)
  have hset : ∀ b, b ≠ w1.heap.size → (W3.setCell ⟨w1.heap.size, 0, none⟩ v).heap[b]? = W3.heap[b]? := fun b hb => Below.heap_setCell _ _ _ _ hb
  have hsz : (W3.setCell ⟨w1.heap.size, 0, none⟩ v).heap.size = W3.heap.size := by simp [World.setCell]
  refine ⟨⟨hk.os.trans h.base.os, hk.tape.trans h.base.tape, hk.output.trans h.base.output, by rw [hsz]; exact Nat.le_trans h.base.size hk.size, fun b hb => ?_⟩, ⟨v, set1 e2, ?_⟩, ?_⟩
  · exact (hset b (by omega)).trans ((hk.block b (Nat.lt_of_lt_of_le hb h.base.size) (fun h => h) (fun e => by have := (g2.high e).1; omega)).trans (h.base.block b hb))
  · rw [take_eget xs j hj]
    exact hn.far (u := .slice none 0 0) (Z := fun b => b = w1.heap.size) ⟨rfl, rfl, rfl, by rw [hsz]; exact Nat.le_refl _, fun b _ hz _ => hset b hz, fun b cur ty e => by simp [Value.ownBlock] at e⟩ (fun b hb => ⟨fun e => hvF (e ▸ hb), by simp [Value.ownBlock]⟩)
  · rw [h.dup, drop_eget xs j hj, take_eget xs j hj, dupF, if_neg (by rw [hh]; simp)]
theorem DcI.stop {w1 : World} {xs : List Ex} {j : Nat} {wr : World} (h : DcI w1 xs j wr) (hj : j < xs.length) (hh : hasB (names (xs.take j)) (eget xs j).s = true) : dupF [] xs = some (eget xs j).a := by
  rw [h.dup, drop_eget xs j hj, dupF, if_pos hh]

set_option maxRecDepth 100000 in
set_option maxHeartbeats 12800000 in
theorem closed_walk (p : Option Addr) (n d : Nat) (xs : List Ex) (h : Hd) (q : Option Addr) (l c : Nat) (t : Tm) (w : World) (hn : xs.length = n) (hnm : n ≤ maxLen) (hx : ExIn w p xs) (hT : TmIs w h q l c t) (hkw : Words.KwLaid w) :
    Calls Tryd.prog 10 #[.agg #[.slice p n d, .int .u8 h.k, .int .u8 h.op, .int .i64 h.pl, .int .i64 h.n, .string h.name, .string h.arg, .string h.exn, .slice q l c]] w fun e w' => e = .returned (.tuple #[.int .i64 (closedF xs t).1, .int .i64 (closedF xs t).2]) ∧ Below w.heap.size w w' := by
  unfold maxLen at hnm
  have hmf : ∀ (fn : Fn) (first cap : Array Value) (w : World), (Instr.makeFunc fn first cap).run Tryd.prog w = .ok (.func fn first cap) w := fun _ _ _ _ => rfl
  have hal : ∀ O : Obj, Below w.heap.size w (w.alloc O) := fun O => (Below.refl _ _).alloc (Nat.le_refl _) O
  have hmay := fun O : Obj => Term.may_walk t h q l c (w.alloc O) (hT.below (hal O)) (hkw.below (hal O))
  obtain ⟨k, op, pl, nn, nm, ar, ex⟩ := h
  have hX : ∀ W, Below (w.alloc (.cells #[.slice p n d, .int .u8 k, .int .u8 op, .int .i64 pl, .int .i64 nn, .string nm, .string ar, .string ex, .slice q l c] 29)).heap.size (w.alloc (.cells #[.slice p n d, .int .u8 k, .int .u8 op, .int .i64 pl, .int .i64 nn, .string nm, .string ar, .string ex, .slice q l c] 29)) W → Below w.heap.size w W ∧ W.heap[w.heap.size]? = some (.cells #[.slice p n d, .int .u8 k, .int .u8 op, .int .i64 pl, .int .i64 nn, .string nm, .string ar, .string ex, .slice q l c] 29 (0, 0)) :=
    fun W hb => ⟨(hal _).trans (hb.mono (hal _).size), (hb.block _ (by simp)).trans (heap_alloc_new w _)⟩
  have HM := Lib.hid hmay; have HX := Lib.hid hX; have HE := Lib.hid hx; have HN := Lib.hid hn; have HT := Lib.hid hT
  clear hmay hX hx hn hT hal
  go_enter Tryd.func10, Tryd.ntmps10
  go_wp2_with (fail)
  refine (HM.out _).mono ?_
  rintro e w1 ⟨rfl, hb1⟩
  obtain ⟨hB1, hbx⟩ := HX.out w1 hb1
  have hwb : w.heap.size < w1.heap.size := lt_of_block hbx
  have HB1 := Lib.hid hB1; have HBX := Lib.hid hbx
  clear hb1 hB1 hbx HM HX
  obtain ⟨⟨r0, r1, r2, r3, r4, r5, r6, r7, r8⟩, s0, s1, s2, s3, s4, s5, s6, s7, s8⟩ := cells9' HBX.out
  have rl := lt_of_block HBX.out
  cases hm : mayT t
  · have hr : closedF xs t = (0, 1) := if_pos hm
    have HR := Lib.hid hr
    clear hr hm
    go_wp2_with (fail)
    refine bodyPost_ret (v := .tuple #[.int .i64 0, .int .i64 1]) (by simp [results, Tryd.results10, go_sem]) rfl ⟨by rw [HR.out], HB1.out⟩
  by_cases h64 : 64 < n
  · have hr : closedF xs t = ((eget xs 64).a, 3) := by
      unfold closedF
      rw [if_neg (by rw [hm]; simp), if_pos (by rw [HN.out]; exact h64)]
    have hi : (64 : Int) < (n : Int) := by omega
    obtain ⟨b, o, rfl, K, c0, c1, c2⟩ := (HE.out.below HB1.out).get 64 (by rw [HN.out]; exact h64)
    have HR := Lib.hid hr
    clear hr hm
    go_wp2_with (fail)
    refine bodyPost_ret (v := .tuple #[.int .i64 (eget xs 64).a, .int .i64 3]) (by simp [results, Tryd.results10, go_sem]) rfl ⟨by rw [HR.out], HB1.out⟩
  have hi : ¬ (64 : Int) < (n : Int) := by omega
  have hr : closedF xs t = match dupF [] xs with
      | some a => (a, 4)
      | none => (scT (clB (names xs)) (clS (names xs)) t [] (0, 0)).2 := by
    unfold closedF
    rw [if_neg (by rw [hm]; simp), if_neg (by rw [HN.out]; exact h64)]
  have HR := Lib.hid hr; have HMAY := Lib.hid hm
  clear hr hm
  go_wp2_with (fail)
  go_loopw [6, 25] (fun _ i wr => ∃ j : Nat, j ≤ n ∧ i = .int .i64 j ∧ Hid (DcI w1 xs j wr)) (fun _ i _ => n - (intOf i).toNat)
  case atStart => exact ⟨0, Nat.zero_le _, rfl, Lib.hid ⟨(Below.refl _ _).alloc (Nat.le_refl _) _, ⟨_, heap_alloc_new w1 _, by rw [List.take_zero]; exact Nm.nil _ _⟩, by rw [List.take_zero, List.drop_zero]; rfl⟩⟩
  case round =>
    obtain ⟨j, hj, rfl, HD⟩ := hrel
    have hbw : Below w.heap.size w wr := HB1.out.trans (HD.out.base.mono HB1.out.size)
    have hbx := (HD.out.base.block _ hwb).trans HBX.out
    have HBW := Lib.hid hbw; have HBX2 := Lib.hid hbx
    clear hbw hbx r0 r1 r2 r3 r4 r5 r6 r7 r8 s0 s1 s2 s3 s4 s5 s6 s7 s8 rl
    by_cases hlt : j < n
    · have hjk : j < xs.length := by rw [HN.out]; exact hlt
      obtain ⟨b, o, rfl, K, c0, c1, c2⟩ := (HE.out.below HBW.out).get j hjk
      have hal2 : Below wr.heap.size wr (wr.alloc (.cells #[.int .u8 K, .string (eget xs j).s, .int .i64 (eget xs j).a] 45)) := (Below.refl _ _).alloc (Nat.le_refl _) _
      have hd2 := HD.out.below hal2
      obtain ⟨v, g1, g2⟩ := hd2.decl
      obtain ⟨p3, d3, e3, _⟩ := g2.slice
      obtain ⟨n3, hn3⟩ : ∃ n3, v = .slice p3 n3 d3 := ⟨_, e3⟩
      clear e3
      subst hn3
      obtain ⟨z0, z1⟩ := cells1' g1
      have zl := lt_of_block g1
      have hbb := hal2.trans (Below.refl _ _)
      have hhw := has_walk _ w1.heap.size _ _ (eget xs j).s g2
      have hxb := heap_alloc_new wr (.cells #[.int .u8 K, .string (eget xs j).s, .int .i64 (eget xs j).a] 45)
      have hbw2 := HBW.out.trans (hal2.mono HBW.out.size)
      have hsz2 := Nat.le_trans HD.out.base.size hal2.size
      have HD2 := Lib.hid hd2; have HG := Lib.hid (And.intro g1 g2); have HHW := Lib.hid hhw; have HJ := Lib.hid hjk; have HXB := Lib.hid hxb; have HBW2 := Lib.hid hbw2; have HSZ2 := Lib.hid hsz2
      clear hal2 hd2 g1 g2 hbb hhw hjk hxb hbw2 hsz2
      go_wp2_with (fail)
      refine HHW.out.mono ?_
      rintro e w2 ⟨rfl, rfl⟩
      obtain ⟨⟨x0, x1, x2⟩, y0, y1, y2⟩ := cells3' HXB.out
      have xl := lt_of_block HXB.out
      cases hh : hasB (names (xs.take j)) (eget xs j).s
      · have hww := fun t => with_one _ w1.heap.size _ _ (eget xs j).s t HG.out.2 (by rw [names_len, List.length_take]; omega) HSZ2.out
        rw [show (wr.alloc (.cells #[.int .u8 K, .string (eget xs j).s, .int .i64 (eget xs j).a] 45)).heap.size = wr.heap.size + 1 from by simp] at hww
        have HWW := Lib.hid hww; have HH := Lib.hid hh
        clear hww hh c0 c1 c2
        go_wp2_with (fail)
        refine (HWW.out _).mono ?_
        rintro e W3 ⟨v', rfl, hn3, hk3, hv3⟩
        have huF := ne_ty HG.out.2 HG.out.1 (by decide)
        have hf3 := (hk3.block _ (lt_of_block HG.out.1) (fun h => h) huF).trans HG.out.1
        have hfin := HD2.out.put HJ.out HG.out.1 HH.out hn3 hk3
        obtain ⟨q3, d4, e3, _⟩ := hn3.slice
        obtain ⟨n4, hn4⟩ : ∃ n4, v' = .slice q3 n4 d4 := ⟨_, e3⟩
        clear e3
        subst hn4
        obtain ⟨p4, pf4⟩ := cells1' hf3
        have fl4 := lt_of_block hf3
        have HF := Lib.hid hfin
        clear hn3 hk3 hv3 huF hf3 hfin z0 z1 zl x0 x1 x2 y0 y1 y2 xl
        go_wp2_with (fail)
        go_roundw
        case rel => exact ⟨j + 1, by omega, by go_num, HF⟩
        case measure => simp [intOf]; omega
      · have hst := HD2.out.stop HJ.out hh
        have HS := Lib.hid hst
        clear hst hh c0 c1 c2
        go_wp2_with (fail)
        refine bodyPost_ret (v := .tuple #[.int .i64 (eget xs j).a, .int .i64 4]) (by simp [results, Tryd.results10, go_sem]) rfl ⟨by rw [HR.out, HS.out], HBW2.out⟩
    · obtain rfl : j = n := by omega
      have hdu := HD.out.dup
      have htk : xs.take j = xs := List.take_of_length_le (by rw [HN.out]; exact Nat.le_refl _)
      rw [htk, List.drop_eq_nil_of_le (by rw [HN.out]; exact Nat.le_refl _)] at hdu
      have hdu' : dupF [] xs = none := hdu
      have hrr := HR.out
      rw [hdu'] at hrr
      obtain ⟨v, g1, g2⟩ := HD.out.decl
      rw [htk] at g2
      have HG := Lib.hid (And.intro g1 g2); have HRR := Lib.hid hrr
      clear hdu htk hdu' hrr g1 g2
      obtain ⟨⟨r0, r1, r2, r3, r4, r5, r6, r7, r8⟩, s0, s1, s2, s3, s4, s5, s6, s7, s8⟩ := cells9' HBX2.out
      have rl := lt_of_block HBX2.out
      go_wp2_with (fail)
      have hz2 : (wr.alloc (.cells #[.int .i64 0] 3)).heap.size = wr.heap.size + 1 := by simp
      have hz3 : ((wr.alloc (.cells #[.int .i64 0] 3)).alloc (.cells #[.int .i64 0] 32)).heap.size = wr.heap.size + 1 + 1 := by simp
      have a2 : Below wr.heap.size wr (wr.alloc (.cells #[.int .i64 0] 3)) := (Below.refl _ _).alloc (Nat.le_refl _) _
      have a3 : Below (wr.heap.size + 1) (wr.alloc (.cells #[.int .i64 0] 3)) ((wr.alloc (.cells #[.int .i64 0] 3)).alloc (.cells #[.int .i64 0] 32)) := (Below.refl _ _).alloc (by omega) _
      have a4 : Below (wr.heap.size + 1 + 1) ((wr.alloc (.cells #[.int .i64 0] 3)).alloc (.cells #[.int .i64 0] 32)) (((wr.alloc (.cells #[.int .i64 0] 3)).alloc (.cells #[.int .i64 0] 32)).alloc (.cells #[.int .u8 k, .int .u8 op, .int .i64 pl, .int .i64 nn, .string nm, .string ar, .string ex, .slice q l c] 27)) := (Below.refl _ _).alloc (by omega) _
      have a34 := (a3.mono (Nat.le_succ _)).trans (a4.mono (by omega : wr.heap.size ≤ _))
      have a24 := a2.trans a34
      have hA4 : (((wr.alloc (.cells #[.int .i64 0] 3)).alloc (.cells #[.int .i64 0] 32)).alloc (.cells #[.int .u8 k, .int .u8 op, .int .i64 pl, .int .i64 nn, .string nm, .string ar, .string ex, .slice q l c] 27)).heap[wr.heap.size]? = some (.cells #[.int .i64 0] 3 (0, 0)) := (a4.block _ (by omega)).trans ((a3.block _ (by omega)).trans (heap_alloc_new wr _))
      have hE4 : (((wr.alloc (.cells #[.int .i64 0] 3)).alloc (.cells #[.int .i64 0] 32)).alloc (.cells #[.int .u8 k, .int .u8 op, .int .i64 pl, .int .i64 nn, .string nm, .string ar, .string ex, .slice q l c] 27)).heap[wr.heap.size + 1]? = some (.cells #[.int .i64 0] 32 (0, 0)) := (a4.block _ (by omega)).trans (by rw [← hz2]; exact heap_alloc_new (wr.alloc (.cells #[.int .i64 0] 3)) _)
      have hL4 : (((wr.alloc (.cells #[.int .i64 0] 3)).alloc (.cells #[.int .i64 0] 32)).alloc (.cells #[.int .u8 k, .int .u8 op, .int .i64 pl, .int .i64 nn, .string nm, .string ar, .string ex, .slice q l c] 27)).heap[wr.heap.size + 1 + 1]? = some (.cells #[.int .u8 k, .int .u8 op, .int .i64 pl, .int .i64 nn, .string nm, .string ar, .string ex, .slice q l c] 27 (0, 0)) := by rw [← hz3]; exact heap_alloc_new ((wr.alloc (.cells #[.int .i64 0] 3)).alloc (.cells #[.int .i64 0] 32)) _
      have hwr := HD.out.base.size
      have hdl := lt_of_block HG.out.1
      have hI : ClI w w1.heap.size w1.heap.size wr.heap.size (wr.heap.size + 1) (names xs) (0 + wts [t]) (0, 0) (((wr.alloc (.cells #[.int .i64 0] 3)).alloc (.cells #[.int .i64 0] 32)).alloc (.cells #[.int .u8 k, .int .u8 op, .int .i64 pl, .int .i64 nn, .string nm, .string ar, .string ex, .slice q l c] 27)) :=
        ⟨HBW.out.trans (a24.mono HBW.out.size), Nat.le_trans hwr a24.size, ⟨v, (a24.block _ hdl).trans HG.out.1, HG.out.2.keep (Keep.of_below (Z := fun _ => False) a24) (fun _ _ h => h)⟩, hA4, hE4⟩
      have hcl := cl_clo w w1.heap.size w1.heap.size wr.heap.size (wr.heap.size + 1) (names xs) HB1.out.size (Nat.le_refl _) hwr (by omega)
      have hall := allClosed_walk _ _ w w1.heap.size w1.heap.size wr.heap.size (wr.heap.size + 1) _ _ hcl (cl_steps w w1.heap.size w1.heap.size wr.heap.size (wr.heap.size + 1) (names xs) HB1.out.size (Nat.le_refl _) hwr (by omega) (by omega) (by omega) (by omega)) (wts [t]) [t] (some ⟨wr.heap.size + 1 + 1, 0, none⟩) 1 1 0 (0, 0) (.slice none 0 0) [] (((wr.alloc (.cells #[.int .i64 0] 3)).alloc (.cells #[.int .i64 0] 32)).alloc (.cells #[.int .u8 k, .int .u8 op, .int .i64 pl, .int .i64 nn, .string nm, .string ar, .string ex, .slice q l c] 27)) (Nat.le_refl _) rfl (by unfold maxLen; omega) (Tops.of_tm HT.out hL4)
        (fun _ b o e _ => by
          injection e with e
          injection e with e1 e2
          subst e1
          refine ⟨fun hz => ?_, by simp [Value.ownBlock]⟩
          rcases hz with hz | hz | hz | ⟨u, k1, k2⟩
          · omega
          · omega
          · omega
          · have := (HG.out.2.high (by rw [← box_val ((a24.block _ hdl).trans HG.out.1) k1] at k2; exact k2)).2
            omega)
        ⟨Nm.nil _ _, fun b hb => by simp [Value.ownBlock] at hb⟩ (by have := may_wt HMAY.out; rw [wts_cons, wts_nil]; simp; omega) hI
      rw [scL_one] at hall
      have HALL := Lib.hid hall
      clear hz2 hz3 a2 a3 a4 a34 a24 hA4 hE4 hL4 hwr hdl hI hcl hall
      refine HALL.out.mono ?_
      rintro e W5 ⟨rfl, hi, _, _⟩
      obtain ⟨z0, z1⟩ := cells1' hi.at_
      obtain ⟨z2, z3⟩ := cells1' hi.err
      have zl := lt_of_block hi.at_
      have zl2 := lt_of_block hi.err
      have HF := Lib.hid hi.base
      clear hi
      generalize (scT (clB (names xs)) (clS (names xs)) t [] (0, 0)).2 = R at *
      go_wp2_with (fail)
      go_quiet (fail)
      go_wp2_with (fail)
      refine bodyPost_ret (v := .tuple #[.int .i64 R.1, .int .i64 R.2]) (by simp [results, Tryd.results10, go_sem]) rfl ⟨by rw [HRR.out], Chars.below_draws HF.out _⟩
end Scope
end Go.Proofs.YtkcadkjpneoobaaDoor
