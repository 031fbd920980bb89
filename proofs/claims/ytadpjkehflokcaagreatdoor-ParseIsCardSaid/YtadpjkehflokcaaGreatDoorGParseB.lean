/-The document's reading of tokens: the small walks. The document's reading of tokens: what may start, and signs. The document's reading of tokens: two terms with a sign between them. -/
import Derived.Test.YtadpjkehflokcaaGreatDoorGParseA
import Derived.Test.YtadpjkehflokcaaGreatDoorGTermB
import Derived.Test.YtadpjkehflokcaaGreatDoorGWordsA
import Derived.LoopTactic
import Derived.IntWalk
namespace Go.Proofs.YtadpjkehflokcaaGreatDoor
open Go.RowKit
set_option linter.unusedVariables false
namespace Parse
open Token (Tok tel ToksAt)
open Term (Tm Hd TmIs Kids ret_bool ret_i64)
open Words (str_no str_yes)

/-- A row of tokens in memory, with the end behind it. -/
structure RowAt (w : World) (g n c : Nat) (ts : List Tok) : Prop where
  toks : ToksAt w g ts
  len : ts.length = n
  cap : n ≤ c ∧ c ≤ maxLen
  small : n ≤ 70000
  row : Row ts
  texts : ∀ i, i < n → (tel ts i).s.size ≤ 70000
  places : ∀ i, i < n → (tel ts i).a ≤ 70000
theorem RowAt.below {w W : World} {g n c : Nat} {ts : List Tok} (h : RowAt w g n c ts) (hb : Below w.heap.size w W) : RowAt W g n c ts :=
  ⟨h.toks.below hb, h.len, h.cap, h.small, h.row, h.texts, h.places⟩
theorem ret_str {a b : ByteArray} (h : a = b) : Ending.returned (.string a) = .returned (.string b) := by rw [h]

set_option maxHeartbeats 3200000 in
theorem text_walk (w : World) (g n c : Nat) (ts : List Tok) (i : Nat) (b : Bool) (hR : RowAt w g n c ts) (hi : i < n) :
    Calls Tryz.prog 21 #[.agg #[.slice (some ⟨g, 0, none⟩) n c, .int .i64 i, .bool b]] w fun e w' => e = .returned (.string (textOf ts i)) ∧ Below w.heap.size w w' := by
  obtain ⟨t0, t1, t2⟩ := hR.toks i (by rw [hR.len]; exact hi)
  have hgl := World.block_lt_of_cell? w _ t0
  simp only at hgl
  have hi1 : (i : Int) < (n : Int) := by omega
  have hi0 : (0 : Int) ≤ (i : Int) := by omega
  have hbox : ∀ O : Obj, Below w.heap.size w (w.alloc O) := fun O => (Below.refl _ _).alloc (Nat.le_refl _) O
  have hx : textOf ts i = if (tel ts i).k = 4 ∨ (tel ts i).k = 5 then (tel ts i).s else ⟨#[]⟩ := rfl
  have HBOX := Lib.hid hbox
  generalize hk : (tel ts i).k = k at *
  have HK := Lib.hid hk
  clear hbox hk hR
  by_cases h4 : k = 4
  · subst h4
    rw [if_pos (.inl rfl)] at hx
    have HX := Lib.hid hx
    clear hx
    go_enter Tryz.func21, Tryz.ntmps21
    go_wp2_with (fail)
    go_ret
    exact ⟨ret_str HX.out.symm, HBOX.out _⟩
  by_cases h5 : k = 5
  · subst h5
    rw [if_pos (.inr rfl)] at hx
    have HX := Lib.hid hx
    clear hx h4
    go_enter Tryz.func21, Tryz.ntmps21
    go_wp2_with (fail)
    go_ret
    exact ⟨ret_str HX.out.symm, HBOX.out _⟩
  rw [if_neg (by omega)] at hx
  have HX := Lib.hid hx
  have e4 : (k == 4) = false := by simpa using h4
  have e5 : (k == 5) = false := by simpa using h5
  clear hx h4 h5
  go_enter Tryz.func21, Tryz.ntmps21
  go_wp2_with (fail)
  go_ret
  exact ⟨ret_str HX.out.symm, HBOX.out _⟩

/-- A block of three cells. -/
theorem cells3 {W : World} {N : Nat} {a0 a1 a2 : Value} {ty : TypeId} (h : W.heap[N]? = some (.cells #[a0, a1, a2] ty (0, 0))) :
    (W.cell? ⟨N, 0, none⟩ = some a0 ∧ W.cell? ⟨N, 1, none⟩ = some a1 ∧ W.cell? ⟨N, 2, none⟩ = some a2) ∧
    (W.frozen? ⟨N, 0, none⟩ = false ∧ W.frozen? ⟨N, 1, none⟩ = false ∧ W.frozen? ⟨N, 2, none⟩ = false) := by
  simp [World.cell?, World.frozen?, h]
/-- Two boxes just laid, later. -/
theorem two_boxes {w W : World} {A B : Obj} (hb : Below ((w.alloc A).alloc B).heap.size ((w.alloc A).alloc B) W) : W.heap[w.heap.size]? = some A ∧ W.heap[w.heap.size + 1]? = some B ∧ Below w.heap.size w W := by
  have h0 : Below w.heap.size w ((w.alloc A).alloc B) := ((Below.refl _ _).alloc (Nat.le_refl _) A).alloc (by simp) B
  have s1 : (w.alloc A).heap.size = w.heap.size + 1 := by simp
  have s2 : ((w.alloc A).alloc B).heap.size = w.heap.size + 2 := by simp
  refine ⟨?_, ?_, h0.trans (hb.mono h0.size)⟩
  · rw [hb.block _ (by omega), Below.heap_alloc _ _ _ (by omega)]; exact heap_alloc_new w A
  · rw [hb.block _ (by omega), ← s1]; exact heap_alloc_new _ B

/-- Where reading stands, as a value. -/
def StEnd (g n c : Nat) (s : St) (w : World) (e : Ending) (w' : World) : Prop := e = .returned (.agg #[.slice (some ⟨g, 0, none⟩) n c, .int .i64 s.i, .bool s.bad]) ∧ Below w.heap.size w w'
theorem stEnd_of {g n c : Nat} {s : St} {w w' : World} {x : Int} {b : Bool} (hx : x = (s.i : Int)) (hb : b = s.bad) (h : Below w.heap.size w w') : StEnd g n c s w (.returned (.agg #[.slice (some ⟨g, 0, none⟩) n c, .int .i64 x, .bool b])) w' := ⟨by rw [hx, hb], h⟩
set_option maxRecDepth 10000 in
set_option maxHeartbeats 6400000 in
theorem want_walk (w : World) (g n c : Nat) (ts : List Tok) (i : Nat) (b : Bool) (x : ByteArray) (hR : RowAt w g n c ts) (hi : i < n) :
    Calls Tryz.prog 23 #[.agg #[.slice (some ⟨g, 0, none⟩) n c, .int .i64 i, .bool b], .string x] w (StEnd g n c (wantF ts ⟨i, b⟩ x) w) := by
  have hbox : ∀ O O' : Obj, Below w.heap.size w ((w.alloc O).alloc O') := fun O O' => ((Below.refl _ _).alloc (Nat.le_refl _) O).alloc (by simp) O'
  have ht := fun W (hb : Below w.heap.size w W) => text_walk W g n c ts i b (hR.below hb) hi
  have hx : wantF ts ⟨i, b⟩ x = if b = true ∨ textOf ts i ≠ x then ⟨i, true⟩ else ⟨i + 1, false⟩ := rfl
  have hi2 : (i : Int) + 1 ≤ 70000 := by have := hR.small; omega
  have hi0 : (0 : Int) ≤ (i : Int) := by omega
  have HBOX := Lib.hid hbox
  generalize textOf ts i = y at *
  have HT := Lib.hid ht
  clear hbox ht hR
  cases b
  case true =>
    rw [if_pos (.inl rfl)] at hx
    have HX := Lib.hid hx
    clear hx
    go_enter Tryz.func23, Tryz.ntmps23
    go_wp2_with (fail)
    refine bodyPost_ret (v := .agg #[.slice (some ⟨g, 0, none⟩) n c, .int .i64 i, .bool true]) (by simp [results, Tryz.results23, go_sem]) rfl (stEnd_of (by rw [HX.out]) (by rw [HX.out]) ?_)
    exact HBOX.out _ _
  have hfin : ∀ (W : World), Below w.heap.size w W → ∀ (v0 v1 v2 u : Value) (o : Nat), Below w.heap.size w ((((W.setCell ⟨w.heap.size, o, none⟩ u).setCell ⟨w.heap.size + 1, 0, none⟩ v0).setCell ⟨w.heap.size + 1, 1, none⟩ v1).setCell ⟨w.heap.size + 1, 2, none⟩ v2) := fun W hb v0 v1 v2 u o =>
    (((hb.setCell (Nat.le_refl _) _).setCell (by show w.heap.size ≤ w.heap.size + 1; omega) _).setCell (by show w.heap.size ≤ w.heap.size + 1; omega) _).setCell (by show w.heap.size ≤ w.heap.size + 1; omega) _
  have HFIN := Lib.hid hfin
  clear hfin
  by_cases hy : y = x
  · rw [if_neg (by simp [hy])] at hx
    have n1 : (y.toList == x.toList) = true := str_yes hy
    have n2 : (y.toList != x.toList) = false := by rw [bne, n1]; rfl
    have HX := Lib.hid hx; have HY := Lib.hid hy
    clear hx hy
    go_enter Tryz.func23, Tryz.ntmps23
    go_wp2_with (fail)
    refine (HT.out _ (HBOX.out _ _)).mono ?_
    rintro e w1 ⟨rfl, hb1⟩
    obtain ⟨h1, h2, h3⟩ := two_boxes hb1
    obtain ⟨⟨b0, b1, b2⟩, f0, f1, f2⟩ := cells3 h1
    obtain ⟨⟨r0, r1, r2⟩, g0, g1, g2⟩ := cells3 h2
    have HB := Lib.hid h3
    clear hb1 h1 h2 h3
    go_wp2_with (fail)
    refine bodyPost_ret (v := .agg #[.slice (some ⟨g, 0, none⟩) n c, .int .i64 ((i : Int) + 1), .bool false]) (by simp [results, Tryz.results23, go_sem, r0, r1, r2]) rfl (stEnd_of (by rw [HX.out]; show (i : Int) + 1 = ((i + 1 : Nat) : Int); omega) (by rw [HX.out]) ?_)
    exact HFIN.out _ HB.out _ _ _ _ _
  · rw [if_pos (.inr hy)] at hx
    have n1 : (y.toList == x.toList) = false := str_no hy
    have n2 : (y.toList != x.toList) = true := by rw [bne, n1]; rfl
    have HX := Lib.hid hx; have HY := Lib.hid hy
    clear hx hy
    go_enter Tryz.func23, Tryz.ntmps23
    go_wp2_with (fail)
    refine (HT.out _ (HBOX.out _ _)).mono ?_
    rintro e w1 ⟨rfl, hb1⟩
    obtain ⟨h1, h2, h3⟩ := two_boxes hb1
    obtain ⟨⟨b0, b1, b2⟩, f0, f1, f2⟩ := cells3 h1
    obtain ⟨⟨r0, r1, r2⟩, g0, g1, g2⟩ := cells3 h2
    have HB := Lib.hid h3
    clear hb1 h1 h2 h3
    go_wp2_with (fail)
    refine bodyPost_ret (v := .agg #[.slice (some ⟨g, 0, none⟩) n c, .int .i64 i, .bool true]) (by simp [results, Tryz.results23, go_sem, r0, r1, r2]) rfl (stEnd_of (by rw [HX.out]) (by rw [HX.out]) ?_)
    exact HFIN.out _ HB.out _ _ _ _ _

/-- .. and a text. -/
def GetEnd (g n c : Nat) (s : St) (x : ByteArray) (w : World) (e : Ending) (w' : World) : Prop := e = .returned (.tuple #[.agg #[.slice (some ⟨g, 0, none⟩) n c, .int .i64 s.i, .bool s.bad], .string x]) ∧ Below w.heap.size w w'
theorem getEnd_of {g n c : Nat} {s : St} {w w' : World} {x : Int} {b : Bool} {y z : ByteArray} (hx : x = (s.i : Int)) (hb : b = s.bad) (hy : y = z) (h : Below w.heap.size w w') : GetEnd g n c s z w (.returned (.tuple #[.agg #[.slice (some ⟨g, 0, none⟩) n c, .int .i64 x, .bool b], .string y])) w' := ⟨by rw [hx, hb, hy], h⟩
set_option maxRecDepth 10000 in
set_option maxHeartbeats 6400000 in
theorem get_walk (w : World) (g n c : Nat) (ts : List Tok) (i : Nat) (b : Bool) (kd : Int) (hR : RowAt w g n c ts) (hi : i < n) :
    Calls Tryz.prog 22 #[.agg #[.slice (some ⟨g, 0, none⟩) n c, .int .i64 i, .bool b], .int .u8 kd] w (GetEnd g n c (getF ts ⟨i, b⟩ kd) (getS ts ⟨i, b⟩ kd) w) := by
  have hbox : ∀ O O' : Obj, Below w.heap.size w ((w.alloc O).alloc O') := fun O O' => ((Below.refl _ _).alloc (Nat.le_refl _) O).alloc (by simp) O'
  obtain ⟨t0, t1, t2⟩ := hR.toks i (by rw [hR.len]; exact hi)
  have hgl := World.block_lt_of_cell? w _ t0
  simp only at hgl
  have hx : getF ts ⟨i, b⟩ kd = if b = true ∨ (tel ts i).k ≠ kd then ⟨i, true⟩ else ⟨i + 1, false⟩ := rfl
  have hs : getS ts ⟨i, b⟩ kd = if b = true ∨ (tel ts i).k ≠ kd then ⟨#[]⟩ else (tel ts i).s := rfl
  have hi2 : (i : Int) + 1 ≤ 70000 := by have := hR.small; omega
  have hi0 : (0 : Int) ≤ (i : Int) := by omega
  have hi1 : (i : Int) < (n : Int) := by omega
  have HBOX := Lib.hid hbox
  generalize (tel ts i).k = k at *
  clear hbox hR
  cases b
  case true =>
    rw [if_pos (.inl rfl)] at hx hs
    have HX := Lib.hid hx; have HS := Lib.hid hs
    clear hx hs
    go_enter Tryz.func22, Tryz.ntmps22
    go_wp2_with (fail)
    refine bodyPost_ret (v := .tuple #[.agg #[.slice (some ⟨g, 0, none⟩) n c, .int .i64 i, .bool true], .string ⟨#[]⟩]) (by simp [results, Tryz.results22, go_sem]) rfl (getEnd_of (by rw [HX.out]) (by rw [HX.out]) HS.out.symm ?_)
    exact HBOX.out _ _
  by_cases hk : k = kd
  · rw [if_neg (by simp [hk])] at hx hs
    have n1 : (k == kd) = true := by simpa using hk
    have n2 : (k != kd) = false := by simpa using hk
    have HX := Lib.hid hx; have HS := Lib.hid hs; have HK := Lib.hid hk
    clear hx hs hk
    go_enter Tryz.func22, Tryz.ntmps22
    go_wp2_with (fail)
    refine bodyPost_ret (v := .tuple #[.agg #[.slice (some ⟨g, 0, none⟩) n c, .int .i64 ((i : Int) + 1), .bool false], .string (tel ts i).s]) (by simp [results, Tryz.results22, go_sem]) rfl (getEnd_of (by rw [HX.out]; show (i : Int) + 1 = ((i + 1 : Nat) : Int); omega) (by rw [HX.out]) HS.out.symm ?_)
    exact HBOX.out _ _
  · rw [if_pos (.inr hk)] at hx hs
    have n1 : (k == kd) = false := by simpa using hk
    have n2 : (k != kd) = true := by simpa using hk
    have HX := Lib.hid hx; have HS := Lib.hid hs; have HK := Lib.hid hk
    clear hx hs hk
    go_enter Tryz.func22, Tryz.ntmps22
    go_wp2_with (fail)
    refine bodyPost_ret (v := .tuple #[.agg #[.slice (some ⟨g, 0, none⟩) n c, .int .i64 i, .bool true], .string ⟨#[]⟩]) (by simp [results, Tryz.results22, go_sem]) rfl (getEnd_of (by rw [HX.out]) (by rw [HX.out]) HS.out.symm ?_)
    exact HBOX.out _ _

/-- How a term is made: a new one, by value. -/
def MakeEnd (k a : Int) (p : Option Addr) (l c : Nat) (w : World) (e : Ending) (w' : World) : Prop := e = .returned (.agg #[.int .u8 k, .int .u8 0, .int .i64 a, .int .i64 0, .string ⟨#[]⟩, .string ⟨#[]⟩, .string ⟨#[]⟩, .slice p l c]) ∧ Below w.heap.size w w'
set_option maxRecDepth 10000 in
set_option maxHeartbeats 3200000 in
theorem term_walk (w : World) (k a : Int) (p : Option Addr) (l c : Nat) :
    Calls Tryz.prog 119 #[.int .u8 k, .int .i64 a, .slice p l c] w (MakeEnd k a p l c w) := by
  have hbox : ∀ O O' : Obj, Below w.heap.size w ((w.alloc O).alloc O') := fun O O' => ((Below.refl _ _).alloc (Nat.le_refl _) O).alloc (by simp) O'
  have HBOX := Lib.hid hbox
  clear hbox
  go_enter Tryz.func119, Tryz.ntmps119
  go_wp2_with (fail)
  refine bodyPost_ret (v := .agg #[.int .u8 k, .int .u8 0, .int .i64 a, .int .i64 0, .string ⟨#[]⟩, .string ⟨#[]⟩, .string ⟨#[]⟩, .slice p l c]) (by simp [results, Tryz.results119, go_sem]) rfl ⟨rfl, ?_⟩
  exact HBOX.out _ _

set_option maxHeartbeats 3200000 in
/-- Does a row have a text? -/
theorem in_walk (w : World) (p : Option Addr) (n d : Nat) (ss : List ByteArray) (x : ByteArray) (hn : ss.length = n) (hm : n ≤ maxLen) (hp : Words.StrsAt w p ss) :
    Calls Tryz.prog 83 #[.slice p n d, .string x] w fun e w' => e = .returned (.bool (inF ss x)) ∧ w = w' := by
  unfold maxLen at hm
  have HN := Lib.hid hn; have HP := Lib.hid hp
  clear hn hp
  go_enter Tryz.func83, Tryz.ntmps83
  go_wp2
  go_loop [5, 8] (fun _ i => ∃ k : Nat, k ≤ n ∧ i = .int .i64 k ∧ Hid (∀ j, j < k → Words.sel ss j ≠ x)) (fun _ i => n - (intOf i).toNat)
  case atStart => exact ⟨0, by omega, rfl, Lib.hid (fun j hj => by omega)⟩
  case round =>
    obtain ⟨k, hk, rfl, HA⟩ := hrel
    by_cases hlt : k < n
    · have hk' : k < ss.length := by rw [HN.out]; exact hlt
      obtain ⟨b, o, rfl, hcs⟩ := HP.out.get k hk'
      have hck := hcs k hk'
      have HK := Lib.hid hk'
      clear hcs hk'
      generalize hy : Words.sel ss k = y at *
      have HY := Lib.hid hy
      clear hy
      by_cases hyx : y = x
      · have n1 : (y.toList == x.toList) = true := str_yes hyx
        have hr : inF ss x = true := List.any_eq_true.2 ⟨_, Words.sel_mem HK.out, decide_eq_true (by rw [HY.out, hyx])⟩
        have HR := Lib.hid hr; have HYX := Lib.hid hyx
        clear hr hyx
        go_wp2
        go_ret
        exact ⟨ret_bool HR.out.symm, rfl⟩
      · have n1 : (y.toList == x.toList) = false := str_no hyx
        have HYX := Lib.hid hyx
        clear hyx
        go_wp2
        go_round
        case rel =>
          refine ⟨k + 1, by omega, by go_num, Lib.hid (fun j hj => ?_)⟩
          by_cases hjk : j = k
          · rw [hjk, HY.out]; exact HYX.out
          · exact HA.out j (by omega)
        case measure => simp [intOf]; omega
    · obtain rfl : k = n := by omega
      have hr : inF ss x = false := by
        unfold inF
        rw [List.any_eq_false]
        intro y hy
        obtain ⟨j, hj, e⟩ := List.getElem_of_mem hy
        have h1 := HA.out j (by rw [← HN.out]; exact hj)
        have h2 : Words.sel ss j = y := by unfold Words.sel; rw [List.getD_eq_getElem?_getD, List.getElem?_eq_getElem hj, e]; rfl
        rw [h2] at h1
        simpa using h1
      have HR := Lib.hid hr
      clear hr
      go_wp2
      go_ret
      exact ⟨ret_bool HR.out.symm, rfl⟩
end Parse
end Go.Proofs.YtadpjkehflokcaaGreatDoor
namespace Go.Proofs.YtadpjkehflokcaaGreatDoor
open Go.RowKit
set_option linter.unusedVariables false
namespace Parse
open Token (Tok tel ToksAt)
open Term (Tm Hd TmIs Kids ret_bool ret_i64)

theorem strs_alloc (w : World) (t : TypeId) (ss : List ByteArray) : Words.StrsAt (w.alloc (.cells (ss.map Value.string).toArray t)) (some ⟨w.heap.size, 0, none⟩) ss := by
  refine .inr ⟨w.heap.size, 0, rfl, fun i hi => ?_⟩
  rw [Nat.zero_add, World.cell?_alloc_mark]
  unfold Words.sel
  rw [List.getElem?_toArray, List.getElem?_map, List.getD_eq_getElem?_getD, List.getElem?_eq_getElem hi]
  rfl
def SignsEnd (k : Nat) (w : World) (e : Ending) (w' : World) : Prop := e = .returned (.slice (some ⟨w.heap.size, 0, none⟩) (signsF k).length (signsF k).length) ∧ Words.StrsAt w' (some ⟨w.heap.size, 0, none⟩) (signsF k) ∧ Below w.heap.size w w'
set_option maxHeartbeats 1600000 in
theorem signs_walk (w : World) (k : Nat) (hk : k < 4) :
    Calls Tryz.prog 84 #[.int .i64 k] w (SignsEnd k w) := by
  have hbox : ∀ O : Obj, Below w.heap.size w (w.alloc O) := fun O => (Below.refl _ _).alloc (Nat.le_refl _) O
  have HBOX := Lib.hid hbox
  clear hbox
  have hh : k = 0 ∨ k = 1 ∨ k = 2 ∨ k = 3 := by omega
  clear hk
  rcases hh with rfl | rfl | rfl | rfl
  · go_enter Tryz.func84, Tryz.ntmps84
    go_wp2
    go_ret
    exact ⟨rfl, strs_alloc w _ [wPut], HBOX.out _⟩
  · go_enter Tryz.func84, Tryz.ntmps84
    go_wp2
    go_ret
    exact ⟨rfl, strs_alloc w _ [wLess, wIs], HBOX.out _⟩
  · go_enter Tryz.func84, Tryz.ntmps84
    go_wp2
    go_ret
    exact ⟨rfl, strs_alloc w _ [wAdd, wSub], HBOX.out _⟩
  · go_enter Tryz.func84, Tryz.ntmps84
    go_wp2
    go_ret
    exact ⟨rfl, strs_alloc w _ [wMul], HBOX.out _⟩

set_option maxRecDepth 10000 in
set_option maxHeartbeats 3200000 in
theorem starts_walk (w : World) (g n c : Nat) (ts : List Tok) (i : Nat) (b : Bool) (hR : RowAt w g n c ts) (hi : i < n) :
    Calls Tryz.prog 118 #[.agg #[.slice (some ⟨g, 0, none⟩) n c, .int .i64 i, .bool b]] w fun e w' => e = .returned (.bool (startsF ts ⟨i, b⟩)) ∧ Below w.heap.size w w' := by
  obtain ⟨t0, t1, t2⟩ := hR.toks i (by rw [hR.len]; exact hi)
  have hgl := World.block_lt_of_cell? w _ t0
  simp only at hgl
  have hi1 : (i : Int) < (n : Int) := by omega
  have hi0 : (0 : Int) ≤ (i : Int) := by omega
  have hbox : ∀ O O' : Obj, Below w.heap.size w ((w.alloc O).alloc O') := fun O O' => ((Below.refl _ _).alloc (Nat.le_refl _) O).alloc (by simp) O'
  have ht := fun W (hb : Below w.heap.size w W) => text_walk W g n c ts i b (hR.below hb) hi
  have hx : startsF ts ⟨i, b⟩ = (decide ((tel ts i).k = 1 ∨ (tel ts i).k = 2) || inF [wGet, wRef, wFst, wSnd, wRaise, wOpen] (textOf ts i)) := rfl
  have hs : ∀ O : Obj, Words.StrsAt ((w.alloc O).alloc (.cells #[.string wGet, .string wRef, .string wFst, .string wSnd, .string wRaise, .string wOpen] 9)) (some ⟨w.heap.size + 1, 0, none⟩) [wGet, wRef, wFst, wSnd, wRaise, wOpen] := fun O => by
    have := strs_alloc (w.alloc O) 9 [wGet, wRef, wFst, wSnd, wRaise, wOpen]
    rw [show (w.alloc O).heap.size = w.heap.size + 1 from by simp] at this
    exact this
  have hbox1 : ∀ O : Obj, Below w.heap.size w (w.alloc O) := fun O => (Below.refl _ _).alloc (Nat.le_refl _) O
  have HBOX := Lib.hid hbox; have HBOX1 := Lib.hid hbox1; have HT := Lib.hid ht; have HS := Lib.hid hs
  generalize textOf ts i = y at *
  generalize (tel ts i).k = k at *
  clear hbox hbox1 ht hR hs
  by_cases hk : k = 1 ∨ k = 2
  · rw [decide_eq_true hk, Bool.true_or] at hx
    have HX := Lib.hid hx
    clear hx
    rcases hk with rfl | rfl
    all_goals
      go_enter Tryz.func118, Tryz.ntmps118
      go_wp2_with (fail)
      go_ret
      exact ⟨ret_bool HX.out.symm, HBOX1.out _⟩
  · rw [decide_eq_false hk, Bool.false_or] at hx
    have e1 : (k == 1) = false := by rw [beq_eq_false_iff_ne]; omega
    have e2 : (k == 2) = false := by rw [beq_eq_false_iff_ne]; omega
    have HX := Lib.hid hx; have HK := Lib.hid hk
    clear hx hk
    go_enter Tryz.func118, Tryz.ntmps118
    go_wp2_with (fail)
    refine (HT.out _ (HBOX.out _ _)).mono ?_
    rintro e w1 ⟨rfl, hb1⟩
    have hs1 := (HS.out _).below hb1
    have HS1 := Lib.hid hs1; have HB1 := Lib.hid ((HBOX.out _ _).trans (hb1.mono (HBOX.out _ _).size))
    clear hb1 hs1
    go_wp2_with (fail)
    refine (in_walk w1 _ 6 _ _ y rfl (by unfold maxLen; omega) HS1.out).mono ?_
    rintro e w2 ⟨rfl, rfl⟩
    cases hz : inF [wGet, wRef, wFst, wSnd, wRaise, wOpen] y
    all_goals
      have HZ := Lib.hid hz
      clear hz
      go_wp2
      go_ret
      exact ⟨ret_bool (by rw [HX.out, HZ.out]), HB1.out⟩
end Parse
end Go.Proofs.YtadpjkehflokcaaGreatDoor
namespace Go.Proofs.YtadpjkehflokcaaGreatDoor
open Go.RowKit
set_option linter.unusedVariables false
namespace Parse
open Token (Tok tel ToksAt)
open Term (Tm Hd TmIs Kids ret_bool ret_i64 Flat tcells Reads veil)
open Words (str_no str_yes)

/-- Two terms, one behind the other, in a block just laid, seen though the block N isn't. -/
theorem kids_two {w V : World} {N : Nat} {h h' : Hd} {p p' : Option Addr} {l l' c c' : Nat} {t u : Tm} (hT : TmIs w h p l c t) (hU : TmIs w h' p' l' c' u) (hN : w.heap.size ≤ N) (ty : TypeId) (b : Nat) (hbN : b ≠ N)
    (hV : ∀ i, i < w.heap.size → V.heap[i]? = w.heap[i]?) (hb : V.heap[b]? = some (.cells (tcells h p l c ++ tcells h' p' l' c').toArray ty (0, 0))) :
    Term.Kids (veil (fun i => decide (i ≠ N)) V) (some ⟨b, 0, none⟩) [t, u] := by
  have hr : Reads w (veil (fun i => decide (i ≠ N)) V) := Term.veil_from (fun i hi => ⟨decide_eq_true (by omega), hV i hi⟩)
  refine Term.kids_of_flat (xs := tcells h p l c ++ tcells h' p' l' c') (fun j v hv => ?_) ((Flat.one (hT.reads' hr)).append (Flat.one (hU.reads' hr)))
  rw [World.cell?_of_block (w := V) (Term.veil_at (decide_eq_true hbN))]
  simp [World.cell?, hb, hv]
/-- How it ends. -/
def PutEnd (x : ByteArray) (t u : Tm) (w : World) (e : Ending) (w' : World) : Prop :=
  ∃ q, e = .returned (.agg #[.int .u8 (opK x), .int .u8 (opO x), .int .i64 t.h.pl, .int .i64 0, .string ⟨#[]⟩, .string ⟨#[]⟩, .string ⟨#[]⟩, .slice q 2 2]) ∧
    TmIs w' ⟨opK x, opO x, t.h.pl, 0, ⟨#[]⟩, ⟨#[]⟩, ⟨#[]⟩⟩ q 2 2 (putF x t u) ∧ Below w.heap.size w w'

theorem tlPut : wPut.toList = [58, 61] := by decide +kernel
theorem tlAdd : wAdd.toList = [43] := by decide +kernel
theorem tlSub : wSub.toList = [45] := by decide +kernel
theorem tlMul : wMul.toList = [42] := by decide +kernel
theorem tlLess : wLess.toList = [60] := by decide +kernel
theorem tlIs : wIs.toList = [61] := by decide +kernel
/-- Four blocks just laid, later. -/
theorem four (w : World) (A B C D : Obj) {W : World} (hb : Below ((((w.alloc A).alloc B).alloc C).alloc D).heap.size ((((w.alloc A).alloc B).alloc C).alloc D) W) : W.heap[w.heap.size + 2]? = some C ∧ W.heap[w.heap.size + 3]? = some D ∧ Below w.heap.size w W := by
  have s1 : (w.alloc A).heap.size = w.heap.size + 1 := by simp
  have s2 : ((w.alloc A).alloc B).heap.size = w.heap.size + 2 := by simp
  have s3 : (((w.alloc A).alloc B).alloc C).heap.size = w.heap.size + 3 := by simp
  have s4 : ((((w.alloc A).alloc B).alloc C).alloc D).heap.size = w.heap.size + 4 := by simp
  have h0 : Below w.heap.size w ((((w.alloc A).alloc B).alloc C).alloc D) := ((((Below.refl _ _).alloc (Nat.le_refl _) _).alloc (by omega) _).alloc (by omega) _).alloc (by omega) _
  refine ⟨?_, ?_, h0.trans (hb.mono h0.size)⟩
  · rw [hb.block _ (by omega), Below.heap_alloc _ _ _ (by omega), ← s2]; exact heap_alloc_new _ C
  · rw [hb.block _ (by omega), ← s3]; exact heap_alloc_new _ D
theorem cells8' {W : World} {N : Nat} {a0 a1 a2 a3 a4 a5 a6 a7 : Value} {ty : TypeId} (h : W.heap[N]? = some (.cells #[a0, a1, a2, a3, a4, a5, a6, a7] ty (0, 0))) :
    (W.cell? ⟨N, 0, none⟩ = some a0 ∧ W.cell? ⟨N, 1, none⟩ = some a1 ∧ W.cell? ⟨N, 2, none⟩ = some a2 ∧ W.cell? ⟨N, 3, none⟩ = some a3 ∧ W.cell? ⟨N, 4, none⟩ = some a4 ∧ W.cell? ⟨N, 5, none⟩ = some a5 ∧ W.cell? ⟨N, 6, none⟩ = some a6 ∧ W.cell? ⟨N, 7, none⟩ = some a7) ∧
    (W.frozen? ⟨N, 0, none⟩ = false ∧ W.frozen? ⟨N, 1, none⟩ = false ∧ W.frozen? ⟨N, 2, none⟩ = false ∧ W.frozen? ⟨N, 3, none⟩ = false ∧ W.frozen? ⟨N, 4, none⟩ = false ∧ W.frozen? ⟨N, 5, none⟩ = false ∧ W.frozen? ⟨N, 6, none⟩ = false ∧ W.frozen? ⟨N, 7, none⟩ = false) := by
  simp [World.cell?, World.frozen?, h]
theorem opB (x : ByteArray) : 0 ≤ opK x ∧ opK x ≤ 255 ∧ 0 ≤ opO x ∧ opO x ≤ 255 := by
  unfold opK opO
  repeat' split
  all_goals omega
theorem put_fin {x : ByteArray} {K O : Int} {k op pl nn k' op' pl' nn' : Int} {nm ar ex nm' ar' ex' : ByteArray} {p p' : Option Addr} {l l' c c' : Nat} {t u : Tm} {w w1 W : World} (hT : TmIs w ⟨k, op, pl, nn, nm, ar, ex⟩ p l c t) (hU : TmIs w ⟨k', op', pl', nn', nm', ar', ex'⟩ p' l' c' u)
    (hK : K = opK x) (hO : O = opO x) (hb : Below ((((w.alloc (.cells #[.int .u8 k, .int .u8 op, .int .i64 pl, .int .i64 nn, .string nm, .string ar, .string ex, .slice p l c] 29)).alloc (.cells #[.int .u8 k', .int .u8 op', .int .i64 pl', .int .i64 nn', .string nm', .string ar', .string ex', .slice p' l' c'] 29)).alloc (.cells #[.int .u8 0, .int .u8 0, .int .i64 0, .int .i64 0, .string ⟨#[]⟩, .string ⟨#[]⟩, .string ⟨#[]⟩, .slice none 0 0] 29)).alloc (.cells #[.int .u8 k, .int .u8 op, .int .i64 pl, .int .i64 nn, .string nm, .string ar, .string ex, .slice p l c, .int .u8 k', .int .u8 op', .int .i64 pl', .int .i64 nn', .string nm', .string ar', .string ex', .slice p' l' c'] 29)).heap.size ((((w.alloc (.cells #[.int .u8 k, .int .u8 op, .int .i64 pl, .int .i64 nn, .string nm, .string ar, .string ex, .slice p l c] 29)).alloc (.cells #[.int .u8 k', .int .u8 op', .int .i64 pl', .int .i64 nn', .string nm', .string ar', .string ex', .slice p' l' c'] 29)).alloc (.cells #[.int .u8 0, .int .u8 0, .int .i64 0, .int .i64 0, .string ⟨#[]⟩, .string ⟨#[]⟩, .string ⟨#[]⟩, .slice none 0 0] 29)).alloc (.cells #[.int .u8 k, .int .u8 op, .int .i64 pl, .int .i64 nn, .string nm, .string ar, .string ex, .slice p l c, .int .u8 k', .int .u8 op', .int .i64 pl', .int .i64 nn', .string nm', .string ar', .string ex', .slice p' l' c'] 29)) w1) (hW : ∀ i, i < w1.heap.size → i ≠ w.heap.size + 2 → W.heap[i]? = w1.heap[i]?) (hB : Below w.heap.size w W) :
    PutEnd x t u w (.returned (.agg #[.int .u8 K, .int .u8 O, .int .i64 pl, .int .i64 0, .string ⟨#[]⟩, .string ⟨#[]⟩, .string ⟨#[]⟩, .slice (some ⟨w.heap.size + 3, 0, none⟩) 2 2])) W := by
  obtain ⟨_, h3, h4⟩ := four w _ _ _ _ hb
  have hpl : t.h.pl = pl := by rw [hT.head]
  have hl3 := lt_of_block h3
  have hk := kids_two (V := W) (N := w.heap.size + 2) hT hU (by omega) 29 (w.heap.size + 3) (by omega) (fun i hi => by rw [hW i (by have := h4.size; omega) (by omega)]; exact h4.block i hi) (by rw [hW _ hl3 (by omega)]; exact h3)
  obtain ⟨b1, b2, b3, b4⟩ := opB x
  refine ⟨_, by rw [hK, hO, hpl], ⟨rfl, rfl, ⟨⟨b1, b2⟩, ⟨b3, b4⟩, ?_, ?_, ?_, ?_, ?_⟩, ⟨Nat.le_refl _, by unfold maxLen; omega⟩, hk.reads' (Term.veil_reads _ _)⟩, hB⟩
  · rw [hpl]; exact hT.ok.pl
  · show (-9223372036854775808 : Int) ≤ 0 ∧ (0 : Int) ≤ 9223372036854775807; omega
  · unfold maxLen; show (0 : Nat) ≤ _; omega
  · unfold maxLen; show (0 : Nat) ≤ _; omega
  · unfold maxLen; show (0 : Nat) ≤ _; omega

set_option maxRecDepth 100000 in
set_option maxHeartbeats 12800000 in
theorem put_any (x : ByteArray) (k op pl nn k' op' pl' nn' : Int) (nm ar ex nm' ar' ex' : ByteArray) (p p' : Option Addr) (l l' c c' : Nat) (t u : Tm) (w : World) (hT : TmIs w ⟨k, op, pl, nn, nm, ar, ex⟩ p l c t) (hU : TmIs w ⟨k', op', pl', nn', nm', ar', ex'⟩ p' l' c' u) :
    Calls Tryz.prog 85 #[.string x, .agg #[.int .u8 k, .int .u8 op, .int .i64 pl, .int .i64 nn, .string nm, .string ar, .string ex, .slice p l c], .agg #[.int .u8 k', .int .u8 op', .int .i64 pl', .int .i64 nn', .string nm', .string ar', .string ex', .slice p' l' c']] w (PutEnd x t u w) := by
  have hm := fun W => term_walk W 9 pl (some ⟨w.heap.size + 3, 0, none⟩) 2 2
  have hfin := fun (K O : Int) (hK : K = opK x) (hO : O = opO x) w1 hb W hW hB => put_fin (W := W) (w1 := w1) hT hU hK hO hb hW hB
  have HM := Lib.hid hm; have HFIN := Lib.hid hfin
  clear hm hT hU hfin
  have hways : x = wPut ∨ x = wAdd ∨ x = wSub ∨ x = wMul ∨ x = wLess ∨ x = wIs ∨ (x ≠ wPut ∧ x ≠ wAdd ∧ x ≠ wSub ∧ x ≠ wMul ∧ x ≠ wLess ∧ x ≠ wIs) := by
    by_cases h1 : x = wPut; · exact .inl h1
    by_cases h2 : x = wAdd; · exact .inr (.inl h2)
    by_cases h3 : x = wSub; · exact .inr (.inr (.inl h3))
    by_cases h4 : x = wMul; · exact .inr (.inr (.inr (.inl h4)))
    by_cases h5 : x = wLess; · exact .inr (.inr (.inr (.inr (.inl h5))))
    by_cases h6 : x = wIs; · exact .inr (.inr (.inr (.inr (.inr (.inl h6)))))
    exact .inr (.inr (.inr (.inr (.inr (.inr ⟨h1, h2, h3, h4, h5, h6⟩)))))
  rcases hways with rfl | rfl | rfl | rfl | rfl | rfl | ⟨h1, h2, h3, h4, h5, h6⟩
  · have e0 : (wPut.toList == [58, 61]) = true := by rw [tlPut]; decide
    have e1 : (wPut.toList == [43]) = false := by rw [tlPut]; decide
    have e2 : (wPut.toList == [45]) = false := by rw [tlPut]; decide
    have e3 : (wPut.toList == [42]) = false := by rw [tlPut]; decide
    have e4 : (wPut.toList == [60]) = false := by rw [tlPut]; decide
    have e5 : (wPut.toList == [61]) = false := by rw [tlPut]; decide
    have hK : (8 : Int) = opK wPut := by decide +kernel
    have hO : (0 : Int) = opO wPut := by decide +kernel
    have HK := Lib.hid hK; have HO := Lib.hid hO
    clear hK hO
    go_enter Tryz.func85, Tryz.ntmps85
    go_wp2_with (fail)
    refine (HM.out _).mono ?_
    rintro e w1 ⟨rfl, hb1⟩
    obtain ⟨r, _, hB⟩ := four w _ _ _ _ hb1
    have rl := lt_of_block r
    obtain ⟨⟨r0, r1, r2, r3, r4, r5, r6, r7⟩, f0, f1, f2, f3, f4, f5, f6, f7⟩ := cells8' (N := w.heap.size + 1 + 1) r
    have rl' : w.heap.size + 1 + 1 < w1.heap.size := rl
    have HB1 := Lib.hid hb1; have HB := Lib.hid hB
    clear hb1 hB r rl
    go_wp2_with (fail)
    refine bodyPost_ret (v := .agg #[.int .u8 8, .int .u8 0, .int .i64 pl, .int .i64 0, .string ⟨#[]⟩, .string ⟨#[]⟩, .string ⟨#[]⟩, .slice (some ⟨w.heap.size + 3, 0, none⟩) 2 2]) (by simp [results, Tryz.results85, go_sem, rl', r0, r1, r2, r3, r4, r5, r6, r7]) rfl (HFIN.out _ _ HK.out HO.out w1 HB1.out _ (fun i hi hn => ?_) ?_)
    · rw [Below.heap_alloc _ _ _ (by simp [World.setCell]; exact hi), Below.heap_setCell _ _ _ _ hn, Below.heap_setCell _ _ _ _ hn, Below.heap_setCell _ _ _ _ hn, Below.heap_setCell _ _ _ _ hn, Below.heap_setCell _ _ _ _ hn, Below.heap_setCell _ _ _ _ hn, Below.heap_setCell _ _ _ _ hn, Below.heap_setCell _ _ _ _ hn]
    · have hle : ∀ off : Nat, w.heap.size ≤ (⟨w.heap.size + 1 + 1, off, none⟩ : Addr).block := fun off => by (show w.heap.size ≤ w.heap.size + 1 + 1; omega)
      exact ((((((((HB.out.setCell (hle _) _).setCell (hle _) _).setCell (hle _) _).setCell (hle _) _).setCell (hle _) _).setCell (hle _) _).setCell (hle _) _).setCell (hle _) _).alloc (by simp [World.setCell]; exact HB.out.size) _
  · have e0 : (wAdd.toList == [58, 61]) = false := by rw [tlAdd]; decide
    have e1 : (wAdd.toList == [43]) = true := by rw [tlAdd]; decide
    have e2 : (wAdd.toList == [45]) = false := by rw [tlAdd]; decide
    have e3 : (wAdd.toList == [42]) = false := by rw [tlAdd]; decide
    have e4 : (wAdd.toList == [60]) = false := by rw [tlAdd]; decide
    have e5 : (wAdd.toList == [61]) = false := by rw [tlAdd]; decide
    have hK : (9 : Int) = opK wAdd := by decide +kernel
    have hO : (1 : Int) = opO wAdd := by decide +kernel
    have HK := Lib.hid hK; have HO := Lib.hid hO
    clear hK hO
    go_enter Tryz.func85, Tryz.ntmps85
    go_wp2_with (fail)
    refine (HM.out _).mono ?_
    rintro e w1 ⟨rfl, hb1⟩
    obtain ⟨r, _, hB⟩ := four w _ _ _ _ hb1
    have rl := lt_of_block r
    obtain ⟨⟨r0, r1, r2, r3, r4, r5, r6, r7⟩, f0, f1, f2, f3, f4, f5, f6, f7⟩ := cells8' (N := w.heap.size + 1 + 1) r
    have rl' : w.heap.size + 1 + 1 < w1.heap.size := rl
    have HB1 := Lib.hid hb1; have HB := Lib.hid hB
    clear hb1 hB r rl
    go_wp2_with (fail)
    refine bodyPost_ret (v := .agg #[.int .u8 9, .int .u8 1, .int .i64 pl, .int .i64 0, .string ⟨#[]⟩, .string ⟨#[]⟩, .string ⟨#[]⟩, .slice (some ⟨w.heap.size + 3, 0, none⟩) 2 2]) (by simp [results, Tryz.results85, go_sem, rl', r0, r1, r2, r3, r4, r5, r6, r7]) rfl (HFIN.out _ _ HK.out HO.out w1 HB1.out _ (fun i hi hn => ?_) ?_)
    · rw [Below.heap_alloc _ _ _ (by simp [World.setCell]; exact hi), Below.heap_setCell _ _ _ _ hn, Below.heap_setCell _ _ _ _ hn, Below.heap_setCell _ _ _ _ hn, Below.heap_setCell _ _ _ _ hn, Below.heap_setCell _ _ _ _ hn, Below.heap_setCell _ _ _ _ hn, Below.heap_setCell _ _ _ _ hn, Below.heap_setCell _ _ _ _ hn]
    · have hle : ∀ off : Nat, w.heap.size ≤ (⟨w.heap.size + 1 + 1, off, none⟩ : Addr).block := fun off => by (show w.heap.size ≤ w.heap.size + 1 + 1; omega)
      exact ((((((((HB.out.setCell (hle _) _).setCell (hle _) _).setCell (hle _) _).setCell (hle _) _).setCell (hle _) _).setCell (hle _) _).setCell (hle _) _).setCell (hle _) _).alloc (by simp [World.setCell]; exact HB.out.size) _
  · have e0 : (wSub.toList == [58, 61]) = false := by rw [tlSub]; decide
    have e1 : (wSub.toList == [43]) = false := by rw [tlSub]; decide
    have e2 : (wSub.toList == [45]) = true := by rw [tlSub]; decide
    have e3 : (wSub.toList == [42]) = false := by rw [tlSub]; decide
    have e4 : (wSub.toList == [60]) = false := by rw [tlSub]; decide
    have e5 : (wSub.toList == [61]) = false := by rw [tlSub]; decide
    have hK : (9 : Int) = opK wSub := by decide +kernel
    have hO : (2 : Int) = opO wSub := by decide +kernel
    have HK := Lib.hid hK; have HO := Lib.hid hO
    clear hK hO
    go_enter Tryz.func85, Tryz.ntmps85
    go_wp2_with (fail)
    refine (HM.out _).mono ?_
    rintro e w1 ⟨rfl, hb1⟩
    obtain ⟨r, _, hB⟩ := four w _ _ _ _ hb1
    have rl := lt_of_block r
    obtain ⟨⟨r0, r1, r2, r3, r4, r5, r6, r7⟩, f0, f1, f2, f3, f4, f5, f6, f7⟩ := cells8' (N := w.heap.size + 1 + 1) r
    have rl' : w.heap.size + 1 + 1 < w1.heap.size := rl
    have HB1 := Lib.hid hb1; have HB := Lib.hid hB
    clear hb1 hB r rl
    go_wp2_with (fail)
    refine bodyPost_ret (v := .agg #[.int .u8 9, .int .u8 2, .int .i64 pl, .int .i64 0, .string ⟨#[]⟩, .string ⟨#[]⟩, .string ⟨#[]⟩, .slice (some ⟨w.heap.size + 3, 0, none⟩) 2 2]) (by simp [results, Tryz.results85, go_sem, rl', r0, r1, r2, r3, r4, r5, r6, r7]) rfl (HFIN.out _ _ HK.out HO.out w1 HB1.out _ (fun i hi hn => ?_) ?_)
    · rw [Below.heap_alloc _ _ _ (by simp [World.setCell]; exact hi), Below.heap_setCell _ _ _ _ hn, Below.heap_setCell _ _ _ _ hn, Below.heap_setCell _ _ _ _ hn, Below.heap_setCell _ _ _ _ hn, Below.heap_setCell _ _ _ _ hn, Below.heap_setCell _ _ _ _ hn, Below.heap_setCell _ _ _ _ hn, Below.heap_setCell _ _ _ _ hn]
    · have hle : ∀ off : Nat, w.heap.size ≤ (⟨w.heap.size + 1 + 1, off, none⟩ : Addr).block := fun off => by (show w.heap.size ≤ w.heap.size + 1 + 1; omega)
      exact ((((((((HB.out.setCell (hle _) _).setCell (hle _) _).setCell (hle _) _).setCell (hle _) _).setCell (hle _) _).setCell (hle _) _).setCell (hle _) _).setCell (hle _) _).alloc (by simp [World.setCell]; exact HB.out.size) _
  · have e0 : (wMul.toList == [58, 61]) = false := by rw [tlMul]; decide
    have e1 : (wMul.toList == [43]) = false := by rw [tlMul]; decide
    have e2 : (wMul.toList == [45]) = false := by rw [tlMul]; decide
    have e3 : (wMul.toList == [42]) = true := by rw [tlMul]; decide
    have e4 : (wMul.toList == [60]) = false := by rw [tlMul]; decide
    have e5 : (wMul.toList == [61]) = false := by rw [tlMul]; decide
    have hK : (9 : Int) = opK wMul := by decide +kernel
    have hO : (3 : Int) = opO wMul := by decide +kernel
    have HK := Lib.hid hK; have HO := Lib.hid hO
    clear hK hO
    go_enter Tryz.func85, Tryz.ntmps85
    go_wp2_with (fail)
    refine (HM.out _).mono ?_
    rintro e w1 ⟨rfl, hb1⟩
    obtain ⟨r, _, hB⟩ := four w _ _ _ _ hb1
    have rl := lt_of_block r
    obtain ⟨⟨r0, r1, r2, r3, r4, r5, r6, r7⟩, f0, f1, f2, f3, f4, f5, f6, f7⟩ := cells8' (N := w.heap.size + 1 + 1) r
    have rl' : w.heap.size + 1 + 1 < w1.heap.size := rl
    have HB1 := Lib.hid hb1; have HB := Lib.hid hB
    clear hb1 hB r rl
    go_wp2_with (fail)
    refine bodyPost_ret (v := .agg #[.int .u8 9, .int .u8 3, .int .i64 pl, .int .i64 0, .string ⟨#[]⟩, .string ⟨#[]⟩, .string ⟨#[]⟩, .slice (some ⟨w.heap.size + 3, 0, none⟩) 2 2]) (by simp [results, Tryz.results85, go_sem, rl', r0, r1, r2, r3, r4, r5, r6, r7]) rfl (HFIN.out _ _ HK.out HO.out w1 HB1.out _ (fun i hi hn => ?_) ?_)
    · rw [Below.heap_alloc _ _ _ (by simp [World.setCell]; exact hi), Below.heap_setCell _ _ _ _ hn, Below.heap_setCell _ _ _ _ hn, Below.heap_setCell _ _ _ _ hn, Below.heap_setCell _ _ _ _ hn, Below.heap_setCell _ _ _ _ hn, Below.heap_setCell _ _ _ _ hn, Below.heap_setCell _ _ _ _ hn, Below.heap_setCell _ _ _ _ hn]
    · have hle : ∀ off : Nat, w.heap.size ≤ (⟨w.heap.size + 1 + 1, off, none⟩ : Addr).block := fun off => by (show w.heap.size ≤ w.heap.size + 1 + 1; omega)
      exact ((((((((HB.out.setCell (hle _) _).setCell (hle _) _).setCell (hle _) _).setCell (hle _) _).setCell (hle _) _).setCell (hle _) _).setCell (hle _) _).setCell (hle _) _).alloc (by simp [World.setCell]; exact HB.out.size) _
  · have e0 : (wLess.toList == [58, 61]) = false := by rw [tlLess]; decide
    have e1 : (wLess.toList == [43]) = false := by rw [tlLess]; decide
    have e2 : (wLess.toList == [45]) = false := by rw [tlLess]; decide
    have e3 : (wLess.toList == [42]) = false := by rw [tlLess]; decide
    have e4 : (wLess.toList == [60]) = true := by rw [tlLess]; decide
    have e5 : (wLess.toList == [61]) = false := by rw [tlLess]; decide
    have hK : (9 : Int) = opK wLess := by decide +kernel
    have hO : (4 : Int) = opO wLess := by decide +kernel
    have HK := Lib.hid hK; have HO := Lib.hid hO
    clear hK hO
    go_enter Tryz.func85, Tryz.ntmps85
    go_wp2_with (fail)
    refine (HM.out _).mono ?_
    rintro e w1 ⟨rfl, hb1⟩
    obtain ⟨r, _, hB⟩ := four w _ _ _ _ hb1
    have rl := lt_of_block r
    obtain ⟨⟨r0, r1, r2, r3, r4, r5, r6, r7⟩, f0, f1, f2, f3, f4, f5, f6, f7⟩ := cells8' (N := w.heap.size + 1 + 1) r
    have rl' : w.heap.size + 1 + 1 < w1.heap.size := rl
    have HB1 := Lib.hid hb1; have HB := Lib.hid hB
    clear hb1 hB r rl
    go_wp2_with (fail)
    refine bodyPost_ret (v := .agg #[.int .u8 9, .int .u8 4, .int .i64 pl, .int .i64 0, .string ⟨#[]⟩, .string ⟨#[]⟩, .string ⟨#[]⟩, .slice (some ⟨w.heap.size + 3, 0, none⟩) 2 2]) (by simp [results, Tryz.results85, go_sem, rl', r0, r1, r2, r3, r4, r5, r6, r7]) rfl (HFIN.out _ _ HK.out HO.out w1 HB1.out _ (fun i hi hn => ?_) ?_)
    · rw [Below.heap_alloc _ _ _ (by simp [World.setCell]; exact hi), Below.heap_setCell _ _ _ _ hn, Below.heap_setCell _ _ _ _ hn, Below.heap_setCell _ _ _ _ hn, Below.heap_setCell _ _ _ _ hn, Below.heap_setCell _ _ _ _ hn, Below.heap_setCell _ _ _ _ hn, Below.heap_setCell _ _ _ _ hn, Below.heap_setCell _ _ _ _ hn]
    · have hle : ∀ off : Nat, w.heap.size ≤ (⟨w.heap.size + 1 + 1, off, none⟩ : Addr).block := fun off => by (show w.heap.size ≤ w.heap.size + 1 + 1; omega)
      exact ((((((((HB.out.setCell (hle _) _).setCell (hle _) _).setCell (hle _) _).setCell (hle _) _).setCell (hle _) _).setCell (hle _) _).setCell (hle _) _).setCell (hle _) _).alloc (by simp [World.setCell]; exact HB.out.size) _
  · have e0 : (wIs.toList == [58, 61]) = false := by rw [tlIs]; decide
    have e1 : (wIs.toList == [43]) = false := by rw [tlIs]; decide
    have e2 : (wIs.toList == [45]) = false := by rw [tlIs]; decide
    have e3 : (wIs.toList == [42]) = false := by rw [tlIs]; decide
    have e4 : (wIs.toList == [60]) = false := by rw [tlIs]; decide
    have e5 : (wIs.toList == [61]) = true := by rw [tlIs]; decide
    have hK : (9 : Int) = opK wIs := by decide +kernel
    have hO : (5 : Int) = opO wIs := by decide +kernel
    have HK := Lib.hid hK; have HO := Lib.hid hO
    clear hK hO
    go_enter Tryz.func85, Tryz.ntmps85
    go_wp2_with (fail)
    refine (HM.out _).mono ?_
    rintro e w1 ⟨rfl, hb1⟩
    obtain ⟨r, _, hB⟩ := four w _ _ _ _ hb1
    have rl := lt_of_block r
    obtain ⟨⟨r0, r1, r2, r3, r4, r5, r6, r7⟩, f0, f1, f2, f3, f4, f5, f6, f7⟩ := cells8' (N := w.heap.size + 1 + 1) r
    have rl' : w.heap.size + 1 + 1 < w1.heap.size := rl
    have HB1 := Lib.hid hb1; have HB := Lib.hid hB
    clear hb1 hB r rl
    go_wp2_with (fail)
    refine bodyPost_ret (v := .agg #[.int .u8 9, .int .u8 5, .int .i64 pl, .int .i64 0, .string ⟨#[]⟩, .string ⟨#[]⟩, .string ⟨#[]⟩, .slice (some ⟨w.heap.size + 3, 0, none⟩) 2 2]) (by simp [results, Tryz.results85, go_sem, rl', r0, r1, r2, r3, r4, r5, r6, r7]) rfl (HFIN.out _ _ HK.out HO.out w1 HB1.out _ (fun i hi hn => ?_) ?_)
    · rw [Below.heap_alloc _ _ _ (by simp [World.setCell]; exact hi), Below.heap_setCell _ _ _ _ hn, Below.heap_setCell _ _ _ _ hn, Below.heap_setCell _ _ _ _ hn, Below.heap_setCell _ _ _ _ hn, Below.heap_setCell _ _ _ _ hn, Below.heap_setCell _ _ _ _ hn, Below.heap_setCell _ _ _ _ hn, Below.heap_setCell _ _ _ _ hn]
    · have hle : ∀ off : Nat, w.heap.size ≤ (⟨w.heap.size + 1 + 1, off, none⟩ : Addr).block := fun off => by (show w.heap.size ≤ w.heap.size + 1 + 1; omega)
      exact ((((((((HB.out.setCell (hle _) _).setCell (hle _) _).setCell (hle _) _).setCell (hle _) _).setCell (hle _) _).setCell (hle _) _).setCell (hle _) _).setCell (hle _) _).alloc (by simp [World.setCell]; exact HB.out.size) _
  · have e0 : (x.toList == [58, 61]) = false := by rw [← tlPut]; exact str_no h1
    have e1 : (x.toList == [43]) = false := by rw [← tlAdd]; exact str_no h2
    have e2 : (x.toList == [45]) = false := by rw [← tlSub]; exact str_no h3
    have e3 : (x.toList == [42]) = false := by rw [← tlMul]; exact str_no h4
    have e4 : (x.toList == [60]) = false := by rw [← tlLess]; exact str_no h5
    have e5 : (x.toList == [61]) = false := by rw [← tlIs]; exact str_no h6
    have hK : (9 : Int) = opK x := by unfold opK; rw [if_neg h1]
    have hO : (0 : Int) = opO x := by unfold opO; rw [if_neg h1, if_neg h2, if_neg h3, if_neg h4, if_neg h5, if_neg h6]
    have HK := Lib.hid hK; have HO := Lib.hid hO
    clear hK hO h1 h2 h3 h4 h5 h6
    go_enter Tryz.func85, Tryz.ntmps85
    go_wp2_with (fail)
    refine (HM.out _).mono ?_
    rintro e w1 ⟨rfl, hb1⟩
    obtain ⟨r, _, hB⟩ := four w _ _ _ _ hb1
    have rl := lt_of_block r
    obtain ⟨⟨r0, r1, r2, r3, r4, r5, r6, r7⟩, f0, f1, f2, f3, f4, f5, f6, f7⟩ := cells8' (N := w.heap.size + 1 + 1) r
    have rl' : w.heap.size + 1 + 1 < w1.heap.size := rl
    have HB1 := Lib.hid hb1; have HB := Lib.hid hB
    clear hb1 hB r rl
    go_wp2_with (fail)
    refine bodyPost_ret (v := .agg #[.int .u8 9, .int .u8 0, .int .i64 pl, .int .i64 0, .string ⟨#[]⟩, .string ⟨#[]⟩, .string ⟨#[]⟩, .slice (some ⟨w.heap.size + 3, 0, none⟩) 2 2]) (by simp [results, Tryz.results85, go_sem, rl', r0, r1, r2, r3, r4, r5, r6, r7]) rfl (HFIN.out _ _ HK.out HO.out w1 HB1.out _ (fun i hi hn => ?_) ?_)
    · rw [Below.heap_alloc _ _ _ (by simp [World.setCell]; exact hi), Below.heap_setCell _ _ _ _ hn, Below.heap_setCell _ _ _ _ hn, Below.heap_setCell _ _ _ _ hn, Below.heap_setCell _ _ _ _ hn, Below.heap_setCell _ _ _ _ hn, Below.heap_setCell _ _ _ _ hn, Below.heap_setCell _ _ _ _ hn, Below.heap_setCell _ _ _ _ hn]
    · have hle : ∀ off : Nat, w.heap.size ≤ (⟨w.heap.size + 1 + 1, off, none⟩ : Addr).block := fun off => by (show w.heap.size ≤ w.heap.size + 1 + 1; omega)
      exact ((((((((HB.out.setCell (hle _) _).setCell (hle _) _).setCell (hle _) _).setCell (hle _) _).setCell (hle _) _).setCell (hle _) _).setCell (hle _) _).setCell (hle _) _).alloc (by simp [World.setCell]; exact HB.out.size) _
end Parse
end Go.Proofs.YtadpjkehflokcaaGreatDoor
