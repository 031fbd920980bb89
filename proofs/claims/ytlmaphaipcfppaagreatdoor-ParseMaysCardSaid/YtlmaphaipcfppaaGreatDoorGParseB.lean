/-The document's reading of tokens: the small walks. The document's reading of tokens: what may start, and signs. -/
import Derived.Test.YtlmaphaipcfppaaGreatDoorGParseA
import Derived.Test.YtlmaphaipcfppaaGreatDoorTermSame
import Derived.Test.YtlmaphaipcfppaaGreatDoorWordsAllW
import Derived.LoopTactic
import Derived.IntWalk
namespace Go.Proofs.YtlmaphaipcfppaaGreatDoor
open Go.RowKit
set_option linter.unusedVariables false
namespace Parse
open Token (Tok tel ToksAt)
open Term (Tm Hd TmIs Kids ret_bool ret_i64)
open Words (str_no str_yes)

/-- A row of tokens in memory, with the end behind it. -/
structure RowAt (w : World) (g n c : Nat) (ts : List Tok) : Prop where
  toks : ToksAt w g ts
  len : ts.length = n
  cap : n ≤ c ∧ c ≤ maxLen
  small : n ≤ 70000
  row : Row ts
  texts : ∀ i, i < n → (tel ts i).s.size ≤ 70000
  places : ∀ i, i < n → (tel ts i).a ≤ 70000
theorem RowAt.below {w W : World} {g n c : Nat} {ts : List Tok} (h : RowAt w g n c ts) (hb : Below w.heap.size w W) : RowAt W g n c ts :=
  ⟨h.toks.below hb, h.len, h.cap, h.small, h.row, h.texts, h.places⟩
theorem ret_str {a b : ByteArray} (h : a = b) : Ending.returned (.string a) = .returned (.string b) := by rw [h]

set_option maxHeartbeats 3200000 in
theorem text_walk (w : World) (g n c : Nat) (ts : List Tok) (i : Nat) (b : Bool) (hR : RowAt w g n c ts) (hi : i < n) :
    Calls Tryz.prog 22 #[.agg #[.slice (some ⟨g, 0, none⟩) n c, .int .i64 i, .bool b]] w fun e w' => e = .returned (.string (textOf ts i)) ∧ Below w.heap.size w w' := by
  obtain ⟨t0, t1, t2⟩ := hR.toks i (by rw [hR.len]; exact hi)
  have hgl := World.block_lt_of_cell? w _ t0
  simp only at hgl
  have hi1 : (i : Int) < (n : Int) := by omega
  have hi0 : (0 : Int) ≤ (i : Int) := by omega
  have hbox : ∀ O : Obj, Below w.heap.size w (w.alloc O) := fun O => (Below.refl _ _).alloc (Nat.le_refl _) O
  have hx : textOf ts i = if (tel ts i).k = 4 ∨ (tel ts i).k = 5 then (tel ts i).s else ⟨#[]⟩ := rfl
  have HBOX := Lib.hid hbox
  generalize hk : (tel ts i).k = k at *
  have HK := Lib.hid hk
  clear hbox hk hR
  by_cases h4 : k = 4
  · subst h4
    rw [if_pos (.inl rfl)] at hx
    have HX := Lib.hid hx
    clear hx
    go_enter Tryz.func22, Tryz.ntmps22
    go_wp2_with (fail)
    go_ret
    exact ⟨ret_str HX.out.symm, HBOX.out _⟩
  by_cases h5 : k = 5
  · subst h5
    rw [if_pos (.inr rfl)] at hx
    have HX := Lib.hid hx
    clear hx h4
    go_enter Tryz.func22, Tryz.ntmps22
    go_wp2_with (fail)
    go_ret
    exact ⟨ret_str HX.out.symm, HBOX.out _⟩
  rw [if_neg (by omega)] at hx
  have HX := Lib.hid hx
  have e4 : (k == 4) = false := by simpa using h4
  have e5 : (k == 5) = false := by simpa using h5
  clear hx h4 h5
  go_enter Tryz.func22, Tryz.ntmps22
  go_wp2_with (fail)
  go_ret
  exact ⟨ret_str HX.out.symm, HBOX.out _⟩

/-- A block of three cells. -/
theorem cells3 {W : World} {N : Nat} {a0 a1 a2 : Value} {ty : TypeId} (h : W.heap[N]? = some (.cells #[a0, a1, a2] ty (0, 0))) :
    (W.cell? ⟨N, 0, none⟩ = some a0 ∧ W.cell? ⟨N, 1, none⟩ = some a1 ∧ W.cell? ⟨N, 2, none⟩ = some a2) ∧
    (W.frozen? ⟨N, 0, none⟩ = false ∧ W.frozen? ⟨N, 1, none⟩ = false ∧ W.frozen? ⟨N, 2, none⟩ = false) := by
  simp [World.cell?, World.frozen?, h]
/-- Two boxes just laid, later. -/
theorem two_boxes {w W : World} {A B : Obj} (hb : Below ((w.alloc A).alloc B).heap.size ((w.alloc A).alloc B) W) : W.heap[w.heap.size]? = some A ∧ W.heap[w.heap.size + 1]? = some B ∧ Below w.heap.size w W := by
  have h0 : Below w.heap.size w ((w.alloc A).alloc B) := ((Below.refl _ _).alloc (Nat.le_refl _) A).alloc (by simp) B
  have s1 : (w.alloc A).heap.size = w.heap.size + 1 := by simp
  have s2 : ((w.alloc A).alloc B).heap.size = w.heap.size + 2 := by simp
  refine ⟨?_, ?_, h0.trans (hb.mono h0.size)⟩
  · rw [hb.block _ (by omega), Below.heap_alloc _ _ _ (by omega)]; exact heap_alloc_new w A
  · rw [hb.block _ (by omega), ← s1]; exact heap_alloc_new _ B

/-- Where reading stands, as a value. -/
def StEnd (g n c : Nat) (s : St) (w : World) (e : Ending) (w' : World) : Prop := e = .returned (.agg #[.slice (some ⟨g, 0, none⟩) n c, .int .i64 s.i, .bool s.bad]) ∧ Below w.heap.size w w'
theorem stEnd_of {g n c : Nat} {s : St} {w w' : World} {x : Int} {b : Bool} (hx : x = (s.i : Int)) (hb : b = s.bad) (h : Below w.heap.size w w') : StEnd g n c s w (.returned (.agg #[.slice (some ⟨g, 0, none⟩) n c, .int .i64 x, .bool b])) w' := ⟨by rw [hx, hb], h⟩
set_option maxRecDepth 10000 in
set_option maxHeartbeats 6400000 in
theorem want_walk (w : World) (g n c : Nat) (ts : List Tok) (i : Nat) (b : Bool) (x : ByteArray) (hR : RowAt w g n c ts) (hi : i < n) :
    Calls Tryz.prog 24 #[.agg #[.slice (some ⟨g, 0, none⟩) n c, .int .i64 i, .bool b], .string x] w (StEnd g n c (wantF ts ⟨i, b⟩ x) w) := by
  have hbox : ∀ O O' : Obj, Below w.heap.size w ((w.alloc O).alloc O') := fun O O' => ((Below.refl _ _).alloc (Nat.le_refl _) O).alloc (by simp) O'
  have ht := fun W (hb : Below w.heap.size w W) => text_walk W g n c ts i b (hR.below hb) hi
  have hx : wantF ts ⟨i, b⟩ x = if b = true ∨ textOf ts i ≠ x then ⟨i, true⟩ else ⟨i + 1, false⟩ := rfl
  have hi2 : (i : Int) + 1 ≤ 70000 := by have := hR.small; omega
  have hi0 : (0 : Int) ≤ (i : Int) := by omega
  have HBOX := Lib.hid hbox
  generalize textOf ts i = y at *
  have HT := Lib.hid ht
  clear hbox ht hR
  cases b
  case true =>
    rw [if_pos (.inl rfl)] at hx
    have HX := Lib.hid hx
    clear hx
    go_enter Tryz.func24, Tryz.ntmps24
    go_wp2_with (fail)
    refine bodyPost_ret (v := .agg #[.slice (some ⟨g, 0, none⟩) n c, .int .i64 i, .bool true]) (by simp [results, Tryz.results24, go_sem]) rfl (stEnd_of (by rw [HX.out]) (by rw [HX.out]) ?_)
    exact HBOX.out _ _
  have hfin : ∀ (W : World), Below w.heap.size w W → ∀ (v0 v1 v2 u : Value) (o : Nat), Below w.heap.size w ((((W.setCell ⟨w.heap.size, o, none⟩ u).setCell ⟨w.heap.size + 1, 0, none⟩ v0).setCell ⟨w.heap.size + 1, 1, none⟩ v1).setCell ⟨w.heap.size + 1, 2, none⟩ v2) := fun W hb v0 v1 v2 u o =>
    (((hb.setCell (Nat.le_refl _) _).setCell (by show w.heap.size ≤ w.heap.size + 1; omega) _).setCell (by show w.heap.size ≤ w.heap.size + 1; omega) _).setCell (by show w.heap.size ≤ w.heap.size + 1; omega) _
  have HFIN := Lib.hid hfin
  clear hfin
  by_cases hy : y = x
  · rw [if_neg (by simp [hy])] at hx
    have n1 : (y.toList == x.toList) = true := str_yes hy
    have n2 : (y.toList != x.toList) = false := by rw [bne, n1]; rfl
    have HX := Lib.hid hx; have HY := Lib.hid hy
    clear hx hy
    go_enter Tryz.func24, Tryz.ntmps24
    go_wp2_with (fail)
    refine (HT.out _ (HBOX.out _ _)).mono ?_
    rintro e w1 ⟨rfl, hb1⟩
    obtain ⟨h1, h2, h3⟩ := two_boxes hb1
    obtain ⟨⟨b0, b1, b2⟩, f0, f1, f2⟩ := cells3 h1
    obtain ⟨⟨r0, r1, r2⟩, g0, g1, g2⟩ := cells3 h2
    have HB := Lib.hid h3
    clear hb1 h1 h2 h3
    go_wp2_with (fail)
    refine bodyPost_ret (v := .agg #[.slice (some ⟨g, 0, none⟩) n c, .int .i64 ((i : Int) + 1), .bool false]) (by simp [results, Tryz.results24, go_sem, r0, r1, r2]) rfl (stEnd_of (by rw [HX.out]; show (i : Int) + 1 = ((i + 1 : Nat) : Int); omega) (by rw [HX.out]) ?_)
    exact HFIN.out _ HB.out _ _ _ _ _
  · rw [if_pos (.inr hy)] at hx
    have n1 : (y.toList == x.toList) = false := str_no hy
    have n2 : (y.toList != x.toList) = true := by rw [bne, n1]; rfl
    have HX := Lib.hid hx; have HY := Lib.hid hy
    clear hx hy
    go_enter Tryz.func24, Tryz.ntmps24
    go_wp2_with (fail)
    refine (HT.out _ (HBOX.out _ _)).mono ?_
    rintro e w1 ⟨rfl, hb1⟩
    obtain ⟨h1, h2, h3⟩ := two_boxes hb1
    obtain ⟨⟨b0, b1, b2⟩, f0, f1, f2⟩ := cells3 h1
    obtain ⟨⟨r0, r1, r2⟩, g0, g1, g2⟩ := cells3 h2
    have HB := Lib.hid h3
    clear hb1 h1 h2 h3
    go_wp2_with (fail)
    refine bodyPost_ret (v := .agg #[.slice (some ⟨g, 0, none⟩) n c, .int .i64 i, .bool true]) (by simp [results, Tryz.results24, go_sem, r0, r1, r2]) rfl (stEnd_of (by rw [HX.out]) (by rw [HX.out]) ?_)
    exact HFIN.out _ HB.out _ _ _ _ _

/-- .. and a text. -/
def GetEnd (g n c : Nat) (s : St) (x : ByteArray) (w : World) (e : Ending) (w' : World) : Prop := e = .returned (.tuple #[.agg #[.slice (some ⟨g, 0, none⟩) n c, .int .i64 s.i, .bool s.bad], .string x]) ∧ Below w.heap.size w w'
theorem getEnd_of {g n c : Nat} {s : St} {w w' : World} {x : Int} {b : Bool} {y z : ByteArray} (hx : x = (s.i : Int)) (hb : b = s.bad) (hy : y = z) (h : Below w.heap.size w w') : GetEnd g n c s z w (.returned (.tuple #[.agg #[.slice (some ⟨g, 0, none⟩) n c, .int .i64 x, .bool b], .string y])) w' := ⟨by rw [hx, hb, hy], h⟩
set_option maxRecDepth 10000 in
set_option maxHeartbeats 6400000 in
theorem get_walk (w : World) (g n c : Nat) (ts : List Tok) (i : Nat) (b : Bool) (kd : Int) (hR : RowAt w g n c ts) (hi : i < n) :
    Calls Tryz.prog 23 #[.agg #[.slice (some ⟨g, 0, none⟩) n c, .int .i64 i, .bool b], .int .u8 kd] w (GetEnd g n c (getF ts ⟨i, b⟩ kd) (getS ts ⟨i, b⟩ kd) w) := by
  have hbox : ∀ O O' : Obj, Below w.heap.size w ((w.alloc O).alloc O') := fun O O' => ((Below.refl _ _).alloc (Nat.le_refl _) O).alloc (by simp) O'
  obtain ⟨t0, t1, t2⟩ := hR.toks i (by rw [hR.len]; exact hi)
  have hgl := World.block_lt_of_cell? w _ t0
  simp only at hgl
  have hx : getF ts ⟨i, b⟩ kd = if b = true ∨ (tel ts i).k ≠ kd then ⟨i, true⟩ else ⟨i + 1, false⟩ := rfl
  have hs : getS ts ⟨i, b⟩ kd = if b = true ∨ (tel ts i).k ≠ kd then ⟨#[]⟩ else (tel ts i).s := rfl
  have hi2 : (i : Int) + 1 ≤ 70000 := by have := hR.small; omega
  have hi0 : (0 : Int) ≤ (i : Int) := by omega
  have hi1 : (i : Int) < (n : Int) := by omega
  have HBOX := Lib.hid hbox
  generalize (tel ts i).k = k at *
  clear hbox hR
  cases b
  case true =>
    rw [if_pos (.inl rfl)] at hx hs
    have HX := Lib.hid hx; have HS := Lib.hid hs
    clear hx hs
    go_enter Tryz.func23, Tryz.ntmps23
    go_wp2_with (fail)
    refine bodyPost_ret (v := .tuple #[.agg #[.slice (some ⟨g, 0, none⟩) n c, .int .i64 i, .bool true], .string ⟨#[]⟩]) (by simp [results, Tryz.results23, go_sem]) rfl (getEnd_of (by rw [HX.out]) (by rw [HX.out]) HS.out.symm ?_)
    exact HBOX.out _ _
  by_cases hk : k = kd
  · rw [if_neg (by simp [hk])] at hx hs
    have n1 : (k == kd) = true := by simpa using hk
    have n2 : (k != kd) = false := by simpa using hk
    have HX := Lib.hid hx; have HS := Lib.hid hs; have HK := Lib.hid hk
    clear hx hs hk
    go_enter Tryz.func23, Tryz.ntmps23
    go_wp2_with (fail)
    refine bodyPost_ret (v := .tuple #[.agg #[.slice (some ⟨g, 0, none⟩) n c, .int .i64 ((i : Int) + 1), .bool false], .string (tel ts i).s]) (by simp [results, Tryz.results23, go_sem]) rfl (getEnd_of (by rw [HX.out]; show (i : Int) + 1 = ((i + 1 : Nat) : Int); omega) (by rw [HX.out]) HS.out.symm ?_)
    exact HBOX.out _ _
  · rw [if_pos (.inr hk)] at hx hs
    have n1 : (k == kd) = false := by simpa using hk
    have n2 : (k != kd) = true := by simpa using hk
    have HX := Lib.hid hx; have HS := Lib.hid hs; have HK := Lib.hid hk
    clear hx hs hk
    go_enter Tryz.func23, Tryz.ntmps23
    go_wp2_with (fail)
    refine bodyPost_ret (v := .tuple #[.agg #[.slice (some ⟨g, 0, none⟩) n c, .int .i64 i, .bool true], .string ⟨#[]⟩]) (by simp [results, Tryz.results23, go_sem]) rfl (getEnd_of (by rw [HX.out]) (by rw [HX.out]) HS.out.symm ?_)
    exact HBOX.out _ _

/-- How a term is made: a new one, by value. -/
def MakeEnd (k a : Int) (p : Option Addr) (l c : Nat) (w : World) (e : Ending) (w' : World) : Prop := e = .returned (.agg #[.int .u8 k, .int .u8 0, .int .i64 a, .int .i64 0, .string ⟨#[]⟩, .string ⟨#[]⟩, .string ⟨#[]⟩, .slice p l c]) ∧ Below w.heap.size w w'
set_option maxRecDepth 10000 in
set_option maxHeartbeats 3200000 in
theorem term_walk (w : World) (k a : Int) (p : Option Addr) (l c : Nat) :
    Calls Tryz.prog 87 #[.int .u8 k, .int .i64 a, .slice p l c] w (MakeEnd k a p l c w) := by
  have hbox : ∀ O O' : Obj, Below w.heap.size w ((w.alloc O).alloc O') := fun O O' => ((Below.refl _ _).alloc (Nat.le_refl _) O).alloc (by simp) O'
  have HBOX := Lib.hid hbox
  clear hbox
  go_enter Tryz.func87, Tryz.ntmps87
  go_wp2_with (fail)
  refine bodyPost_ret (v := .agg #[.int .u8 k, .int .u8 0, .int .i64 a, .int .i64 0, .string ⟨#[]⟩, .string ⟨#[]⟩, .string ⟨#[]⟩, .slice p l c]) (by simp [results, Tryz.results87, go_sem]) rfl ⟨rfl, ?_⟩
  exact HBOX.out _ _

set_option maxHeartbeats 3200000 in
/-- Does a row have a text? -/
theorem in_walk (w : World) (p : Option Addr) (n d : Nat) (ss : List ByteArray) (x : ByteArray) (hn : ss.length = n) (hm : n ≤ maxLen) (hp : Words.StrsAt w p ss) :
    Calls Tryz.prog 63 #[.slice p n d, .string x] w fun e w' => e = .returned (.bool (inF ss x)) ∧ w = w' := by
  unfold maxLen at hm
  have HN := Lib.hid hn; have HP := Lib.hid hp
  clear hn hp
  go_enter Tryz.func63, Tryz.ntmps63
  go_wp2
  go_loop [5, 8] (fun _ i => ∃ k : Nat, k ≤ n ∧ i = .int .i64 k ∧ Hid (∀ j, j < k → Words.sel ss j ≠ x)) (fun _ i => n - (intOf i).toNat)
  case atStart => exact ⟨0, by omega, rfl, Lib.hid (fun j hj => by omega)⟩
  case round =>
    obtain ⟨k, hk, rfl, HA⟩ := hrel
    by_cases hlt : k < n
    · have hk' : k < ss.length := by rw [HN.out]; exact hlt
      obtain ⟨b, o, rfl, hcs⟩ := HP.out.get k hk'
      have hck := hcs k hk'
      have HK := Lib.hid hk'
      clear hcs hk'
      generalize hy : Words.sel ss k = y at *
      have HY := Lib.hid hy
      clear hy
      by_cases hyx : y = x
      · have n1 : (y.toList == x.toList) = true := str_yes hyx
        have hr : inF ss x = true := List.any_eq_true.2 ⟨_, Words.sel_mem HK.out, decide_eq_true (by rw [HY.out, hyx])⟩
        have HR := Lib.hid hr; have HYX := Lib.hid hyx
        clear hr hyx
        go_wp2
        go_ret
        exact ⟨ret_bool HR.out.symm, rfl⟩
      · have n1 : (y.toList == x.toList) = false := str_no hyx
        have HYX := Lib.hid hyx
        clear hyx
        go_wp2
        go_round
        case rel =>
          refine ⟨k + 1, by omega, by go_num, Lib.hid (fun j hj => ?_)⟩
          by_cases hjk : j = k
          · rw [hjk, HY.out]; exact HYX.out
          · exact HA.out j (by omega)
        case measure => simp [intOf]; omega
    · obtain rfl : k = n := by omega
      have hr : inF ss x = false := by
        unfold inF
        rw [List.any_eq_false]
        intro y hy
        obtain ⟨j, hj, e⟩ := List.getElem_of_mem hy
        have h1 := HA.out j (by rw [← HN.out]; exact hj)
        have h2 : Words.sel ss j = y := by unfold Words.sel; rw [List.getD_eq_getElem?_getD, List.getElem?_eq_getElem hj, e]; rfl
        rw [h2] at h1
        simpa using h1
      have HR := Lib.hid hr
      clear hr
      go_wp2
      go_ret
      exact ⟨ret_bool HR.out.symm, rfl⟩
end Parse
end Go.Proofs.YtlmaphaipcfppaaGreatDoor
namespace Go.Proofs.YtlmaphaipcfppaaGreatDoor
open Go.RowKit
set_option linter.unusedVariables false
namespace Parse
open Token (Tok tel ToksAt)
open Term (Tm Hd TmIs Kids ret_bool ret_i64)

theorem strs_alloc (w : World) (t : TypeId) (ss : List ByteArray) : Words.StrsAt (w.alloc (.cells (ss.map Value.string).toArray t)) (some ⟨w.heap.size, 0, none⟩) ss := by
  refine .inr ⟨w.heap.size, 0, rfl, fun i hi => ?_⟩
  rw [Nat.zero_add, World.cell?_alloc_mark]
  unfold Words.sel
  rw [List.getElem?_toArray, List.getElem?_map, List.getD_eq_getElem?_getD, List.getElem?_eq_getElem hi]
  rfl
def SignsEnd (k : Nat) (w : World) (e : Ending) (w' : World) : Prop := e = .returned (.slice (some ⟨w.heap.size, 0, none⟩) (signsF k).length (signsF k).length) ∧ Words.StrsAt w' (some ⟨w.heap.size, 0, none⟩) (signsF k) ∧ Below w.heap.size w w'
set_option maxHeartbeats 1600000 in
theorem signs_walk (w : World) (k : Nat) (hk : k < 4) :
    Calls Tryz.prog 64 #[.int .i64 k] w (SignsEnd k w) := by
  have hbox : ∀ O : Obj, Below w.heap.size w (w.alloc O) := fun O => (Below.refl _ _).alloc (Nat.le_refl _) O
  have HBOX := Lib.hid hbox
  clear hbox
  have hh : k = 0 ∨ k = 1 ∨ k = 2 ∨ k = 3 := by omega
  clear hk
  rcases hh with rfl | rfl | rfl | rfl
  · go_enter Tryz.func64, Tryz.ntmps64
    go_wp2
    go_ret
    exact ⟨rfl, strs_alloc w _ [wPut], HBOX.out _⟩
  · go_enter Tryz.func64, Tryz.ntmps64
    go_wp2
    go_ret
    exact ⟨rfl, strs_alloc w _ [wLess, wIs], HBOX.out _⟩
  · go_enter Tryz.func64, Tryz.ntmps64
    go_wp2
    go_ret
    exact ⟨rfl, strs_alloc w _ [wAdd, wSub], HBOX.out _⟩
  · go_enter Tryz.func64, Tryz.ntmps64
    go_wp2
    go_ret
    exact ⟨rfl, strs_alloc w _ [wMul], HBOX.out _⟩

set_option maxRecDepth 10000 in
set_option maxHeartbeats 3200000 in
theorem starts_walk (w : World) (g n c : Nat) (ts : List Tok) (i : Nat) (b : Bool) (hR : RowAt w g n c ts) (hi : i < n) :
    Calls Tryz.prog 86 #[.agg #[.slice (some ⟨g, 0, none⟩) n c, .int .i64 i, .bool b]] w fun e w' => e = .returned (.bool (startsF ts ⟨i, b⟩)) ∧ Below w.heap.size w w' := by
  obtain ⟨t0, t1, t2⟩ := hR.toks i (by rw [hR.len]; exact hi)
  have hgl := World.block_lt_of_cell? w _ t0
  simp only at hgl
  have hi1 : (i : Int) < (n : Int) := by omega
  have hi0 : (0 : Int) ≤ (i : Int) := by omega
  have hbox : ∀ O O' : Obj, Below w.heap.size w ((w.alloc O).alloc O') := fun O O' => ((Below.refl _ _).alloc (Nat.le_refl _) O).alloc (by simp) O'
  have ht := fun W (hb : Below w.heap.size w W) => text_walk W g n c ts i b (hR.below hb) hi
  have hx : startsF ts ⟨i, b⟩ = (decide ((tel ts i).k = 1 ∨ (tel ts i).k = 2) || inF [wGet, wRef, wFst, wSnd, wRaise, wOpen] (textOf ts i)) := rfl
  have hs : ∀ O : Obj, Words.StrsAt ((w.alloc O).alloc (.cells #[.string wGet, .string wRef, .string wFst, .string wSnd, .string wRaise, .string wOpen] 9)) (some ⟨w.heap.size + 1, 0, none⟩) [wGet, wRef, wFst, wSnd, wRaise, wOpen] := fun O => by
    have := strs_alloc (w.alloc O) 9 [wGet, wRef, wFst, wSnd, wRaise, wOpen]
    rw [show (w.alloc O).heap.size = w.heap.size + 1 from by simp] at this
    exact this
  have hbox1 : ∀ O : Obj, Below w.heap.size w (w.alloc O) := fun O => (Below.refl _ _).alloc (Nat.le_refl _) O
  have HBOX := Lib.hid hbox; have HBOX1 := Lib.hid hbox1; have HT := Lib.hid ht; have HS := Lib.hid hs
  generalize textOf ts i = y at *
  generalize (tel ts i).k = k at *
  clear hbox hbox1 ht hR hs
  by_cases hk : k = 1 ∨ k = 2
  · rw [decide_eq_true hk, Bool.true_or] at hx
    have HX := Lib.hid hx
    clear hx
    rcases hk with rfl | rfl
    all_goals
      go_enter Tryz.func86, Tryz.ntmps86
      go_wp2_with (fail)
      go_ret
      exact ⟨ret_bool HX.out.symm, HBOX1.out _⟩
  · rw [decide_eq_false hk, Bool.false_or] at hx
    have e1 : (k == 1) = false := by rw [beq_eq_false_iff_ne]; omega
    have e2 : (k == 2) = false := by rw [beq_eq_false_iff_ne]; omega
    have HX := Lib.hid hx; have HK := Lib.hid hk
    clear hx hk
    go_enter Tryz.func86, Tryz.ntmps86
    go_wp2_with (fail)
    refine (HT.out _ (HBOX.out _ _)).mono ?_
    rintro e w1 ⟨rfl, hb1⟩
    have hs1 := (HS.out _).below hb1
    have HS1 := Lib.hid hs1; have HB1 := Lib.hid ((HBOX.out _ _).trans (hb1.mono (HBOX.out _ _).size))
    clear hb1 hs1
    go_wp2_with (fail)
    refine (in_walk w1 _ 6 _ _ y rfl (by unfold maxLen; omega) HS1.out).mono ?_
    rintro e w2 ⟨rfl, rfl⟩
    cases hz : inF [wGet, wRef, wFst, wSnd, wRaise, wOpen] y
    all_goals
      have HZ := Lib.hid hz
      clear hz
      go_wp2
      go_ret
      exact ⟨ret_bool (by rw [HX.out, HZ.out]), HB1.out⟩
end Parse
end Go.Proofs.YtlmaphaipcfppaaGreatDoor
