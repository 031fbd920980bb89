/-The program's reading of tokens: the small methods. The program's reading of tokens: words, names, heads of terms. -/
import Derived.Test.YtlmaphaipcfppaaGreatDoorGParseA
import Derived.Test.YtlmaphaipcfppaaGreatDoorGParseB
import Derived.Test.YtlmaphaipcfppaaGreatDoorTermReads
namespace Go.Proofs.YtlmaphaipcfppaaGreatDoor
open Go.RowKit
set_option linter.unusedVariables false
namespace Parse
open Token (Tok tel ToksAt)
open Term (Tm Hd TmIs Kids ret_bool ret_i64 Reads veil)
open Words (str_no str_yes)

/-- The parser's variable, in block P: the tokens that are left. -/
def PAt (w : World) (P g n c i : Nat) : Prop := w.heap[P]? = some (.cells #[.slice (some ⟨g, i * 3, none⟩) ((n : Int) - (i : Int)).toNat ((c : Int) - (i : Int)).toNat] 79 (0, 0))
theorem PAt.cell {w : World} {P g n c i : Nat} (h : PAt w P g n c i) : w.cell? ⟨P, 0, none⟩ = some (.slice (some ⟨g, i * 3, none⟩) ((n : Int) - (i : Int)).toNat ((c : Int) - (i : Int)).toNat) ∧ w.frozen? ⟨P, 0, none⟩ = false := by
  unfold PAt at h
  simp [World.cell?, World.frozen?, h]
/-- Nothing but block P is written. -/
structure Off (P : Nat) (w w' : World) : Prop where
  os : w'.os = w.os
  tape : w'.tape = w.tape
  output : w'.output = w.output
  size : w.heap.size ≤ w'.heap.size
  block : ∀ k, k < w.heap.size → k ≠ P → w'.heap[k]? = w.heap[k]?
theorem Off.refl (P : Nat) (w : World) : Off P w w := ⟨rfl, rfl, rfl, Nat.le_refl _, fun _ _ _ => rfl⟩
theorem Off.trans {P : Nat} {a b c : World} (h : Off P a b) (k : Off P b c) : Off P a c :=
  ⟨k.os.trans h.os, k.tape.trans h.tape, k.output.trans h.output, Nat.le_trans h.size k.size, fun i hi hn => (k.block i (Nat.lt_of_lt_of_le hi h.size) hn).trans (h.block i hi hn)⟩
theorem Off.of_below {P : Nat} {w w' : World} (h : Below w.heap.size w w') : Off P w w' := ⟨h.os, h.tape, h.output, h.size, fun k hk _ => h.block k hk⟩
theorem Off.setP {P : Nat} {w w' : World} (h : Off P w w') (o : Nat) (v : Value) : Off P w (w'.setCell ⟨P, o, none⟩ v) :=
  ⟨h.os, h.tape, h.output, by simpa [World.setCell] using h.size, fun k hk hn => (Below.heap_setCell _ _ _ _ hn).trans (h.block k hk hn)⟩
theorem Off.setNew {P : Nat} {w w' : World} (h : Off P w w') {b : Nat} (hb : w.heap.size ≤ b) (o : Nat) (v : Value) : Off P w (w'.setCell ⟨b, o, none⟩ v) :=
  ⟨h.os, h.tape, h.output, by simpa [World.setCell] using h.size, fun k hk hn => (Below.heap_setCell _ _ _ _ (by show k ≠ b; omega)).trans (h.block k hk hn)⟩
theorem Off.alloc {P : Nat} {w w' : World} (h : Off P w w') (O : Obj) : Off P w (w'.alloc O) :=
  ⟨h.os, h.tape, h.output, by have := h.size; simp; omega, fun k hk hn => (Below.heap_alloc _ _ _ (by have := h.size; omega)).trans (h.block k hk hn)⟩
theorem PAt.alloc {w : World} {P g n c i : Nat} (h : PAt w P g n c i) (O : Obj) : PAt (w.alloc O) P g n c i := by
  have hl := lt_of_block h
  unfold PAt at h ⊢
  rw [Below.heap_alloc _ _ _ hl]
  exact h
theorem PAt.other {w : World} {P g n c i : Nat} (h : PAt w P g n c i) {b : Nat} (hb : P ≠ b) (o : Nat) (v : Value) : PAt (w.setCell ⟨b, o, none⟩ v) P g n c i := by
  unfold PAt at h ⊢
  rw [Below.heap_setCell _ _ _ _ hb]
  exact h
theorem PAt.set {w : World} {P g n c i : Nat} (h : PAt w P g n c i) {a m d : Nat} (j : Nat) (ha : a = j * 3) (hm : m = ((n : Int) - (j : Int)).toNat) (hd : d = ((c : Int) - (j : Int)).toNat) : PAt (w.setCell ⟨P, 0, none⟩ (.slice (some ⟨g, a, none⟩) m d)) P g n c j := by
  unfold PAt at h ⊢
  have hl := lt_of_block h
  subst ha hm hd
  simp [World.setCell, Array.getElem?_modify, h]
theorem PAt.off {w w' : World} {P g n c i : Nat} (h : PAt w P g n c i) (hb : Below w.heap.size w w') : PAt w' P g n c i := by
  unfold PAt at h ⊢
  rw [hb.block P (lt_of_block h)]
  exact h
/-- The tokens stand in another block. -/
theorem RowAt.off {w W : World} {P g n c : Nat} {ts : List Tok} (h : RowAt w g n c ts) (hg : g ≠ P) (hb : Off P w W) : RowAt W g n c ts := by
  refine ⟨fun i hi => ?_, h.len, h.cap, h.small, h.row, h.texts, h.places⟩
  obtain ⟨h0, h1, h2⟩ := h.toks i hi
  have hl : g < w.heap.size := World.block_lt_of_cell? w _ h0
  have e : ∀ o : Nat, W.cell? ⟨g, o, none⟩ = w.cell? ⟨g, o, none⟩ := fun o => World.cell?_of_block (a := ⟨g, o, none⟩) (hb.block g hl hg)
  exact ⟨(e _).trans h0, (e _).trans h1, (e _).trans h2⟩
/-- What the parser's calls may rely on. -/
structure PR (w : World) (P g n c i : Nat) (ts : List Tok) : Prop where
  row : RowAt w g n c ts
  ne : g ≠ P
  good : Good ts
  lt : i < n
  at_ : PAt w P g n c i
theorem PR.below {w W : World} {P g n c i : Nat} {ts : List Tok} (h : PR w P g n c i ts) (hb : Below w.heap.size w W) : PR W P g n c i ts :=
  ⟨h.row.below hb, h.ne, h.good, h.lt, h.at_.off hb⟩
def vis (P : Nat) (w : World) : World := veil (fun i => decide (i ≠ P)) w
theorem Off.reads {P : Nat} {w w' : World} (h : Off P w w') : Reads (vis P w) (vis P w') := Term.veil_to fun b hb hp => ⟨hp, h.block b hb (of_decide_eq_true hp)⟩

/-- A token, by value. -/
def tokV (t : Tok) : Value := .agg #[.int .u8 t.k, .string t.s, .int .i64 t.a]
/-- A token that can't stand is thrown. -/
def strayV (t : Tok) : Value := .iface 77 (.agg #[.int .u8 t.k, .string t.s, .int .i64 t.a])
def thrown (t : Tok) : Ending := .panicked [{ v := strayV t, recovered := false }]

theorem fieldTok0 (k a : Int) (s : ByteArray) (w : World) : (Instr.field 48 (.agg #[.int .u8 k, .string s, .int .i64 a]) 0).run Tryz.prog w = .ok (.int .u8 k) w := by kernel_rfl
theorem fieldTok1 (k a : Int) (s : ByteArray) (w : World) : (Instr.field 48 (.agg #[.int .u8 k, .string s, .int .i64 a]) 1).run Tryz.prog w = .ok (.string s) w := by kernel_rfl
theorem fieldTok2 (k a : Int) (s : ByteArray) (w : World) : (Instr.field 48 (.agg #[.int .u8 k, .string s, .int .i64 a]) 2).run Tryz.prog w = .ok (.int .i64 a) w := by kernel_rfl
/-- What the walks see of it. -/
theorem PR.open {w : World} {P g n c i : Nat} {ts : List Tok} (h : PR w P g n c i ts) :
    ∃ m d : Nat, ((n : Int) - (i : Int)).toNat = m ∧ ((c : Int) - (i : Int)).toNat = d ∧ w.cell? ⟨P, 0, none⟩ = some (.slice (some ⟨g, i * 3, none⟩) m d) ∧ w.frozen? ⟨P, 0, none⟩ = false ∧ 1 ≤ m ∧ m ≤ d ∧
      w.cell? ⟨g, i * 3, none⟩ = some (.int .u8 (tel ts i).k) ∧ w.cell? ⟨g, i * 3 + 1, none⟩ = some (.string (tel ts i).s) ∧ w.cell? ⟨g, i * 3 + 2, none⟩ = some (.int .i64 (tel ts i).a) := by
  obtain ⟨h1, h2⟩ := h.at_.cell
  obtain ⟨t0, t1, t2⟩ := h.row.toks i (by rw [h.row.len]; exact h.lt)
  have := h.lt
  have := h.row.cap
  exact ⟨_, _, rfl, rfl, h1, h2, by omega, by omega, t0, t1, t2⟩

set_option maxRecDepth 10000 in
set_option maxHeartbeats 3200000 in
theorem next_walk (w : World) (P g n c i : Nat) (ts : List Tok) (h : PR w P g n c i ts) :
    Calls Tryz.prog 43 #[.pointer (some ⟨P, 0, none⟩)] w fun e w' => e = .returned (tokV (tel ts i)) ∧ Below w.heap.size w w' := by
  obtain ⟨m, d, _, _, p0, p1, hm, hmd, t0, t1, t2⟩ := h.open
  have hm0 : (0 : Int) < (m : Int) := by omega
  have hgl := World.block_lt_of_cell? w _ t0
  have hpl := World.block_lt_of_cell? w _ p0
  simp only at hgl hpl
  have hbox : ∀ O : Obj, Below w.heap.size w (w.alloc O) := fun O => (Below.refl _ _).alloc (Nat.le_refl _) O
  have HBOX := Lib.hid hbox
  unfold tokV
  clear h hbox
  go_enter Tryz.func43, Tryz.ntmps43
  go_wp2
  refine bodyPost_ret (v := .agg #[.int .u8 (tel ts i).k, .string (tel ts i).s, .int .i64 (tel ts i).a]) (by simp [results, Tryz.results43, go_sem]) rfl ⟨rfl, HBOX.out _⟩

/-- An index of a text in a row, or -1. -/
def IsAt (ss : List ByteArray) (x : ByteArray) (e : Ending) : Prop := ∃ r : Int, e = .returned (.int .i64 r) ∧ (inF ss x = true → 0 ≤ r) ∧ (inF ss x = false → r < 0)
theorem in_true {ss : List ByteArray} {x : ByteArray} {k : Nat} (hk : k < ss.length) (h : Words.sel ss k = x) : inF ss x = true := List.any_eq_true.2 ⟨_, Words.sel_mem hk, decide_eq_true h⟩
theorem in_false {ss : List ByteArray} {x : ByteArray} (h : ∀ j, j < ss.length → Words.sel ss j ≠ x) : inF ss x = false := by
  unfold inF
  rw [List.any_eq_false]
  intro y hy
  obtain ⟨j, hj, e⟩ := List.getElem_of_mem hy
  have h1 := h j hj
  have h2 : Words.sel ss j = y := by unfold Words.sel; rw [List.getD_eq_getElem?_getD, List.getElem?_eq_getElem hj, e]; rfl
  rw [h2] at h1
  simpa using h1
theorem index_strs (p : Option Addr) (n d : Nat) (ss : List ByteArray) (x : ByteArray) (w : World) (hn : ss.length = n) (hm : n ≤ maxLen) (hp : Words.StrsAt w p ss) :
    Calls Tryz.prog 84 #[.slice p n d, .string x] w fun e w' => IsAt ss x e ∧ w = w' := by
  unfold maxLen at hm
  have HP := Lib.hid hp; clear hp
  have HL := Lib.hid hn; clear hn
  go_enter Tryz.func84, Tryz.ntmps84
  go_wp2
  go_loop [5, 8] (fun _ i => ∃ k : Nat, k ≤ n ∧ i = .int .i64 k ∧ Hid (∀ j, j < k → Words.sel ss j ≠ x)) (fun _ i => n - (intOf i).toNat)
  case atStart => exact ⟨0, by omega, rfl, Lib.hid (fun j hj => by omega)⟩
  case round =>
    obtain ⟨k, hk, rfl, HA⟩ := hrel
    by_cases hlt : k < n
    · have hk' : k < ss.length := by rw [HL.out]; exact hlt
      obtain ⟨b, o, rfl, hcs⟩ := HP.out.get k hk'
      have hck := hcs k hk'
      have HK := Lib.hid hk'
      clear hcs hk'
      generalize hy : Words.sel ss k = y at *
      have HY := Lib.hid hy
      clear hy
      by_cases hyx : y = x
      · have n1 : (x.toList == y.toList) = true := str_yes hyx.symm
        have HYX := Lib.hid hyx
        clear hyx
        go_wp2
        go_ret
        have hin := in_true HK.out (HY.out.trans HYX.out)
        refine ⟨⟨k, rfl, fun _ => by omega, fun h => ?_⟩, rfl⟩
        rw [hin] at h
        cases h
      · have n1 : (x.toList == y.toList) = false := str_no fun e => hyx e.symm
        have HYX := Lib.hid hyx
        clear hyx
        go_wp2
        go_round
        case rel =>
          refine ⟨k + 1, by omega, by go_num, Lib.hid (fun j hj => ?_)⟩
          by_cases hjk : j = k
          · rw [hjk, HY.out]; exact HYX.out
          · exact HA.out j (by omega)
        case measure => simp [intOf]; omega
    · obtain rfl : k = n := by omega
      go_wp2
      go_ret
      have hin := in_false (ss := ss) (x := x) (fun j hj => HA.out j (by rw [← HL.out]; exact hj))
      refine ⟨⟨-1, rfl, fun h => ?_, fun h => by omega⟩, rfl⟩
      rw [hin] at h
      cases h
theorem contains_strs (p : Option Addr) (n d : Nat) (ss : List ByteArray) (x : ByteArray) (w : World) (hn : ss.length = n) (hm : n ≤ maxLen) (hp : Words.StrsAt w p ss) :
    Calls Tryz.prog 61 #[.slice p n d, .string x] w fun e w' => e = .returned (.bool (inF ss x)) ∧ w = w' := by
  have HB := Lib.hid hp; clear hp
  have HL := Lib.hid hn; clear hn
  go_enter Tryz.func61, Tryz.ntmps61
  go_wp2_with (fail)
  refine (index_strs p n d ss x w HL.out hm HB.out).mono ?_
  rintro e w' ⟨⟨r, rfl, h1, h2⟩, rfl⟩
  have H1 := Lib.hid h1; have H2 := Lib.hid h2; clear h1 h2
  go_wp2
  go_ret
  refine ⟨ret_bool ?_, rfl⟩
  have h1 := H1.out; have h2 := H2.out
  cases hi : inF ss x
  · have := h2 hi; simp; omega
  · have := h1 hi; simp; omega

set_option maxRecDepth 10000 in
set_option maxHeartbeats 3200000 in
/-- Is the next token one of these words? -/
theorem is_walk (w : World) (P g n c i : Nat) (ts : List Tok) (p : Option Addr) (l d : Nat) (ss : List ByteArray) (h : PR w P g n c i ts) (hs : ss.length = l) (hm : l ≤ maxLen) (hp : Words.StrsAt w p ss) (hw : ∀ x ∈ ss, x ∈ wordsL) :
    Calls Tryz.prog 36 #[.pointer (some ⟨P, 0, none⟩), .slice p l d] w fun e w' => e = .returned (.bool (inF ss (textOf ts i))) ∧ Below w.heap.size w w' := by
  have hin : inF ss (tel ts i).s = inF ss (textOf ts i) := h.good.in_text (by rw [h.row.len]; exact h.lt) hw
  have hnx := fun W (hb : Below w.heap.size w W) => next_walk W P g n c i ts (h.below hb)
  have hct := fun W (hb : Below w.heap.size w W) x => contains_strs p l d ss x W hs hm (hp.below hb)
  have hbox : ∀ O : Obj, Below w.heap.size w (w.alloc O) := fun O => (Below.refl _ _).alloc (Nat.le_refl _) O
  have HNX := Lib.hid hnx; have HCT := Lib.hid hct; have HIN := Lib.hid hin; have HBOX := Lib.hid hbox
  unfold tokV at HNX
  clear hnx hct hin hbox h hp hw
  have hf := fieldTok1
  go_enter Tryz.func36, Tryz.ntmps36
  go_wp2_with (fail)
  refine (HNX.out _ (Below.refl _ _)).mono ?_
  rintro e w1 ⟨rfl, hb1⟩
  have HB1 := Lib.hid hb1
  clear hb1
  go_wp2_with (fail)
  refine (HCT.out w1 HB1.out _).mono ?_
  rintro e w2 ⟨rfl, rfl⟩
  go_wp2_with (fail)
  go_ret
  exact ⟨ret_bool HIN.out, HB1.out⟩

/-- A box just laid, later. -/
theorem one_box {w W : World} {A : Obj} (hb : Below (w.alloc A).heap.size (w.alloc A) W) : W.heap[w.heap.size]? = some A ∧ Below w.heap.size w W := by
  have s1 : (w.alloc A).heap.size = w.heap.size + 1 := by simp
  refine ⟨?_, ((Below.refl _ _).alloc (Nat.le_refl _) A).trans (hb.mono (by omega))⟩
  rw [hb.block _ (by omega)]
  exact heap_alloc_new w A
set_option maxRecDepth 10000 in
set_option maxHeartbeats 3200000 in
/-- A token is taken. -/
theorem take_walk (w : World) (P g n c i : Nat) (ts : List Tok) (h : PR w P g n c i ts) (hin : i + 1 < n) :
    Calls Tryz.prog 37 #[.pointer (some ⟨P, 0, none⟩)] w fun e w' => e = .returned (tokV (tel ts i)) ∧ Off P w w' ∧ PAt w' P g n c (i + 1) := by
  have hnx := fun W (hb : Below w.heap.size w W) => next_walk W P g n c i ts (h.below hb)
  have hpr := fun W (hb : Below w.heap.size w W) => h.below hb
  have hbox : ∀ O : Obj, Below w.heap.size w (w.alloc O) := fun O => (Below.refl _ _).alloc (Nat.le_refl _) O
  have hP := lt_of_block h.at_
  have hc := h.row.cap
  have HNX := Lib.hid hnx; have HPR := Lib.hid hpr; have HBOX := Lib.hid hbox; have HIN := Lib.hid hin; have HC := Lib.hid hc
  unfold tokV at HNX ⊢
  clear hnx hpr h hbox hin hc
  have hPn : ¬ P = w.heap.size := by omega
  have hPn' : ¬ w.heap.size = P := by omega
  go_enter Tryz.func37, Tryz.ntmps37
  go_wp2_with (fail)
  refine (HNX.out _ (HBOX.out _)).mono ?_
  rintro e w1 ⟨rfl, hb1⟩
  obtain ⟨h1, h2⟩ := one_box hb1
  obtain ⟨m, d, hm', hd', p0, p1, hm, hmd, t0, t1, t2⟩ := (HPR.out w1 h2).open
  have HMD := Lib.hid (And.intro hm' hd')
  have hm0 : (1 : Int) ≤ (m : Int) := by omega
  have hm1 : (m : Int) ≤ (d : Int) := by omega
  have hd1 : ¬ d = 1 := by have := HIN.out; have := HC.out; omega
  have hpl := World.block_lt_of_cell? w1 _ p0
  simp only at hpl
  obtain ⟨⟨r0, r1, r2⟩, f0, f1, f2⟩ := cells3 h1
  have rl := lt_of_block h1
  have HB1 := Lib.hid h2
  clear hb1 h1 h2 hm' hd'
  go_wp2_with (fail)
  refine bodyPost_ret (v := .agg #[.int .u8 (tel ts i).k, .string (tel ts i).s, .int .i64 (tel ts i).a]) (by simp [results, Tryz.results37, go_sem, rl, r0, r1, r2]) rfl ⟨rfl, ?_, ?_⟩
  · exact ((((Off.of_below HB1.out).setP 0 _).setNew (Nat.le_refl _) _ _).setNew (Nat.le_refl _) _ _).setNew (Nat.le_refl _) _ _ |>.alloc _
  · have hx := HMD.out
    have := HIN.out
    exact (((((HPR.out w1 HB1.out).at_.set (i + 1) (by omega) (by omega) (by omega)).other hPn _ _).other hPn _ _).other hPn _ _).alloc _

set_option maxRecDepth 10000 in
set_option maxHeartbeats 3200000 in
theorem need_walk (w : World) (P g n c i : Nat) (ts : List Tok) (h : PR w P g n c i ts) :
    Calls Tryz.prog 34 #[.pointer (some ⟨P, 0, none⟩), .bool false] w fun e w' => e = thrown (tel ts i) ∧ Below w.heap.size w w' := by
  have hnx := fun W (hb : Below w.heap.size w W) => next_walk W P g n c i ts (h.below hb)
  have hbox : ∀ O : Obj, Below w.heap.size w (w.alloc O) := fun O => (Below.refl _ _).alloc (Nat.le_refl _) O
  have HNX := Lib.hid hnx; have HBOX := Lib.hid hbox
  unfold tokV at HNX
  unfold thrown strayV
  clear hnx h hbox
  go_enter Tryz.func34, Tryz.ntmps34
  go_wp2_with (fail)
  refine (HNX.out _ (Below.refl _ _)).mono ?_
  rintro e w1 ⟨rfl, hb1⟩
  have HB1 := Lib.hid hb1
  clear hb1
  go_wp2_with (fail)
  exact ⟨rfl, rfl, HB1.out⟩
end Parse
end Go.Proofs.YtlmaphaipcfppaaGreatDoor
namespace Go.Proofs.YtlmaphaipcfppaaGreatDoor
open Go.RowKit
set_option linter.unusedVariables false
namespace Parse
open Token (Tok tel ToksAt)
open Term (Tm Hd TmIs Kids ret_bool ret_i64 Reads veil)
open Words (str_no str_yes)
open Chars (isin BytesAt)

/-- The next token is behind that one. -/
theorem PR.next {w w' : World} {P g n c i : Nat} {ts : List Tok} (h : PR w P g n c i ts) (ho : Off P w w') (hp : PAt w' P g n c (i + 1)) (hk : (tel ts i).k ≠ 6) : PR w' P g n c (i + 1) ts :=
  ⟨h.row.off h.ne ho, h.ne, h.good, by have := h.good.row.next ts (i := i) (by rw [h.row.len]; exact h.lt) hk; rw [h.row.len] at this; exact this, hp⟩
theorem PR.more {w : World} {P g n c i : Nat} {ts : List Tok} (h : PR w P g n c i ts) (hk : (tel ts i).k ≠ 6) : i + 1 < n := by
  have := h.good.row.next ts (i := i) (by rw [h.row.len]; exact h.lt) hk
  rw [h.row.len] at this
  exact this
theorem text_not_end {ts : List Tok} {i : Nat} {x : ByteArray} (hx : x ∈ wordsL) (h : textOf ts i = x) : (tel ts i).k ≠ 6 := by
  have := textOf_some ts (i := i) (by rw [h]; exact (words_apart x hx).2.2.2)
  omega

theorem PR.old {w : World} {P g n c i : Nat} {ts : List Tok} (h : PR w P g n c i ts) : P < w.heap.size ∧ g < w.heap.size := by
  refine ⟨lt_of_block h.at_, ?_⟩
  obtain ⟨t0, _, _⟩ := h.row.toks i (by rw [h.row.len]; exact h.lt)
  exact World.block_lt_of_cell? w _ t0
/-- Where only newer blocks are written. -/
theorem PR.keep {w W : World} {P g n c i B : Nat} {ts : List Tok} (h : PR w P g n c i ts) (hb : Below B w W) (hP : P < B) (hg : g < B) : PR W P g n c i ts := by
  refine ⟨⟨fun j hj => ?_, h.row.len, h.row.cap, h.row.small, h.row.row, h.row.texts, h.row.places⟩, h.ne, h.good, h.lt, ?_⟩
  · obtain ⟨h0, h1, h2⟩ := h.row.toks j hj
    have e : ∀ o : Nat, W.cell? ⟨g, o, none⟩ = w.cell? ⟨g, o, none⟩ := fun o => World.cell?_of_block (a := ⟨g, o, none⟩) (hb.block g hg)
    exact ⟨(e _).trans h0, (e _).trans h1, (e _).trans h2⟩
  · have := h.at_
    unfold PAt at this ⊢
    rw [hb.block P hP]
    exact this
theorem Off.then {P : Nat} {w w1 W : World} (h : Off P w w1) (hb : Below w.heap.size w1 W) : Off P w W :=
  ⟨hb.os.trans h.os, hb.tape.trans h.tape, hb.output.trans h.output, Nat.le_trans h.size hb.size, fun k hk hn => (hb.block k hk).trans (h.block k hk hn)⟩
theorem box_off {P : Nat} {w W : World} {O : Obj} (h : Off P (w.alloc O) W) (hP : P < w.heap.size) : W.heap[w.heap.size]? = some O ∧ Off P w W := by
  have s1 : (w.alloc O).heap.size = w.heap.size + 1 := by simp
  refine ⟨?_, ((Off.refl P w).alloc O).trans h⟩
  rw [h.block _ (by omega) (by omega)]
  exact heap_alloc_new w O
theorem Below.set3 (w W : World) (N : Nat) (hN : w.heap.size ≤ N) (a b c : Value) : Below w.heap.size W (((W.setCell ⟨N, 0, none⟩ a).setCell ⟨N, 1, none⟩ b).setCell ⟨N, 2, none⟩ c) :=
  (((Below.refl _ _).setCell hN _).setCell hN _).setCell hN _
theorem Below.set7 (w W : World) (N : Nat) (hN : w.heap.size ≤ N) (a b c d e f g : Value) : Below w.heap.size W (((((((W.setCell ⟨N, 0, none⟩ a).setCell ⟨N, 1, none⟩ b).setCell ⟨N, 2, none⟩ c).setCell ⟨N, 3, none⟩ d).setCell ⟨N, 4, none⟩ e).setCell ⟨N, 5, none⟩ f).setCell ⟨N, 6, none⟩ g) :=
  (((((((Below.refl _ _).setCell hN _).setCell hN _).setCell hN _).setCell hN _).setCell hN _).setCell hN _).setCell hN _
theorem Below.set8 (w W : World) (N : Nat) (hN : w.heap.size ≤ N) (a b c d e f g h : Value) : Below w.heap.size W ((((((((W.setCell ⟨N, 0, none⟩ a).setCell ⟨N, 1, none⟩ b).setCell ⟨N, 2, none⟩ c).setCell ⟨N, 3, none⟩ d).setCell ⟨N, 4, none⟩ e).setCell ⟨N, 5, none⟩ f).setCell ⟨N, 6, none⟩ g).setCell ⟨N, 7, none⟩ h) :=
  ((((((((Below.refl _ _).setCell hN _).setCell hN _).setCell hN _).setCell hN _).setCell hN _).setCell hN _).setCell hN _).setCell hN _
theorem cells7' {W : World} {N : Nat} {a0 a1 a2 a3 a4 a5 a6 : Value} {ty : TypeId} (h : W.heap[N]? = some (.cells #[a0, a1, a2, a3, a4, a5, a6] ty (0, 0))) :
    (W.cell? ⟨N, 0, none⟩ = some a0 ∧ W.cell? ⟨N, 1, none⟩ = some a1 ∧ W.cell? ⟨N, 2, none⟩ = some a2 ∧ W.cell? ⟨N, 3, none⟩ = some a3 ∧ W.cell? ⟨N, 4, none⟩ = some a4 ∧ W.cell? ⟨N, 5, none⟩ = some a5 ∧ W.cell? ⟨N, 6, none⟩ = some a6) ∧
    (W.frozen? ⟨N, 0, none⟩ = false ∧ W.frozen? ⟨N, 1, none⟩ = false ∧ W.frozen? ⟨N, 2, none⟩ = false ∧ W.frozen? ⟨N, 3, none⟩ = false ∧ W.frozen? ⟨N, 4, none⟩ = false ∧ W.frozen? ⟨N, 5, none⟩ = false ∧ W.frozen? ⟨N, 6, none⟩ = false) := by
  simp [World.cell?, World.frozen?, h]
theorem need_ok (w : World) (a : Value) :
    Calls Tryz.prog 34 #[a, .bool true] w fun e w' => e = .returned (.tuple #[]) ∧ w = w' := by
  go_enter Tryz.func34, Tryz.ntmps34
  go_wp2
  first | go_end0 | refine bodyPost_ret (results_none rfl _ _ _) rfl ?_
  exact ⟨rfl, rfl⟩

set_option maxRecDepth 10000 in
set_option maxHeartbeats 3200000 in
/-- Is the next token of one of these kinds? -/
theorem has_walk (w : World) (P g n c i : Nat) (ts : List Tok) (p : Option Addr) (l d : Nat) (ks : List Int) (h : PR w P g n c i ts) (hs : ks.length = l) (hm : l ≤ maxLen) (hp : ∀ W, Below w.heap.size w W → BytesAt W p ks) :
    Calls Tryz.prog 35 #[.pointer (some ⟨P, 0, none⟩), .slice p l d] w fun e w' => e = .returned (.bool (isin ks (tel ts i).k)) ∧ Below w.heap.size w w' := by
  have hnx := fun W (hb : Below w.heap.size w W) => next_walk W P g n c i ts (h.below hb)
  have hct := fun W (hb : Below w.heap.size w W) x => Chars.contains_walk p l d ks x W hs hm (hp W hb)
  have hbox : ∀ O : Obj, Below w.heap.size w (w.alloc O) := fun O => (Below.refl _ _).alloc (Nat.le_refl _) O
  have HNX := Lib.hid hnx; have HCT := Lib.hid hct; have HBOX := Lib.hid hbox
  unfold tokV at HNX
  clear hnx hct hbox h hp
  have hf := fieldTok0
  go_enter Tryz.func35, Tryz.ntmps35
  go_wp2_with (fail)
  refine (HNX.out _ (Below.refl _ _)).mono ?_
  rintro e w1 ⟨rfl, hb1⟩
  have HB1 := Lib.hid hb1
  clear hb1
  go_wp2_with (fail)
  refine (HCT.out w1 HB1.out _).mono ?_
  rintro e w2 ⟨rfl, rfl⟩
  go_wp2_with (fail)
  go_ret
  exact ⟨rfl, HB1.out⟩

/-- A word is taken, or what stands there is thrown. -/
def WordEnd (P g n c i : Nat) (ts : List Tok) (x : ByteArray) (w : World) (e : Ending) (w' : World) : Prop :=
  (textOf ts i = x ∧ e = .returned (.tuple #[]) ∧ Off P w w' ∧ PR w' P g n c (i + 1) ts) ∨ (textOf ts i ≠ x ∧ e = thrown (tel ts i) ∧ Off P w w')
set_option maxRecDepth 10000 in
set_option maxHeartbeats 3200000 in
theorem word_walk (w : World) (P g n c i : Nat) (ts : List Tok) (x : ByteArray) (h : PR w P g n c i ts) (hx : x ∈ wordsL) :
    Calls Tryz.prog 39 #[.pointer (some ⟨P, 0, none⟩), .string x] w (WordEnd P g n c i ts x w) := by
  have hbox : ∀ O : Obj, Below w.heap.size w (w.alloc O) := fun O => (Below.refl _ _).alloc (Nat.le_refl _) O
  have hst : ∀ t, Words.StrsAt (w.alloc (.cells #[.string x] t)) (some ⟨w.heap.size, 0, none⟩) [x] := fun t => strs_alloc w t [x]
  have his := fun t => is_walk (w.alloc (.cells #[.string x] t)) P g n c i ts (some ⟨w.heap.size, 0, none⟩) 1 1 [x] (h.below (hbox _)) rfl (by unfold maxLen; omega) (hst t) (fun y hy => by rw [List.mem_singleton] at hy; rw [hy]; exact hx)
  have hnd := fun W (hb : Below w.heap.size w W) => need_walk W P g n c i ts (h.below hb)
  have htk := fun W (hb : Below w.heap.size w W) hk => take_walk W P g n c i ts (h.below hb) hk
  have hin : inF [x] (textOf ts i) = decide (x = textOf ts i) := by unfold inF; simp
  by_cases hy : textOf ts i = x
  · rw [decide_eq_true hy.symm] at hin
    have hne := text_not_end hx hy
    have htk' := fun W (hb : Below w.heap.size w W) => htk W hb (h.more hne)
    have hfin : ∀ (W W' : World) (e : Ending), Below w.heap.size w W → Off P W W' → PAt W' P g n c (i + 1) → e = .returned (.tuple #[]) → WordEnd P g n c i ts x w e W' := fun W W' e hb ho hp he =>
      .inl ⟨hy, he, (Off.of_below hb).trans ho, h.next ((Off.of_below hb).trans ho) hp hne⟩
    have HIS := Lib.hid his; have HTK := Lib.hid htk'; have HIN := Lib.hid hin; have HBOX := Lib.hid hbox; have HFIN := Lib.hid hfin
    unfold tokV at HTK
    clear his htk htk' hin hbox hfin h hy hx hst hnd hne
    go_enter Tryz.func39, Tryz.ntmps39
    go_wp2_with (fail)
    refine (HIS.out _).mono ?_
    rintro e w1 ⟨rfl, hb1⟩
    rw [HIN.out]
    have HB1 := Lib.hid ((HBOX.out _).trans (hb1.mono (HBOX.out _).size))
    clear hb1
    go_wp2_with (fail)
    refine (need_ok _ _).mono ?_
    rintro e w2 ⟨rfl, rfl⟩
    go_wp2_with (fail)
    refine (HTK.out w1 HB1.out).mono ?_
    rintro e w2 ⟨rfl, ho, hp⟩
    have HO := Lib.hid ho; have HP := Lib.hid hp
    clear ho hp
    go_wp2_with (fail)
    go_end0
    exact HFIN.out w1 w2 _ HB1.out HO.out HP.out rfl
  · rw [decide_eq_false (fun e => hy e.symm)] at hin
    have HIS := Lib.hid his; have HND := Lib.hid hnd; have HIN := Lib.hid hin; have HBOX := Lib.hid hbox; have HY := Lib.hid hy
    unfold thrown strayV at HND
    clear his hnd hin hbox h htk hx hst hy
    go_enter Tryz.func39, Tryz.ntmps39
    go_wp2_with (fail)
    refine (HIS.out _).mono ?_
    rintro e w1 ⟨rfl, hb1⟩
    rw [HIN.out]
    have HB1 := Lib.hid ((HBOX.out _).trans (hb1.mono (HBOX.out _).size))
    clear hb1
    go_wp2_with (fail)
    refine (HND.out _ HB1.out).mono ?_
    rintro e w2 ⟨rfl, hb2⟩
    have HB2 := Lib.hid (HB1.out.trans (hb2.mono HB1.out.size))
    clear hb2
    go_wp2_with (fail)
    exact ⟨rfl, .inr ⟨HY.out, rfl, Off.of_below HB2.out⟩⟩

/-- A token of some kinds is taken, or what stands there is thrown. -/
def OneEnd (P g n c i : Nat) (ts : List Tok) (ks : List Int) (w : World) (e : Ending) (w' : World) : Prop :=
  (isin ks (tel ts i).k = true ∧ e = .returned (tokV (tel ts i)) ∧ Off P w w' ∧ PR w' P g n c (i + 1) ts) ∨ (isin ks (tel ts i).k = false ∧ e = thrown (tel ts i) ∧ Off P w w')
set_option maxRecDepth 10000 in
set_option maxHeartbeats 3200000 in
theorem one_walk (w : World) (P g n c i : Nat) (ts : List Tok) (p : Option Addr) (l d : Nat) (ks : List Int) (h : PR w P g n c i ts) (hs : ks.length = l) (hm : l ≤ maxLen) (hp : ∀ W, Below w.heap.size w W → BytesAt W p ks) (h6 : isin ks 6 = false) :
    Calls Tryz.prog 38 #[.pointer (some ⟨P, 0, none⟩), .slice p l d] w (OneEnd P g n c i ts ks w) := by
  have hbox : ∀ O : Obj, Below w.heap.size w (w.alloc O) := fun O => (Below.refl _ _).alloc (Nat.le_refl _) O
  have his := fun W (hb : Below w.heap.size w W) => has_walk W P g n c i ts p l d ks (h.below hb) hs hm (fun W' hb' => hp W' (hb.trans (hb'.mono hb.size)))
  have hnd := fun W (hb : Below w.heap.size w W) => need_walk W P g n c i ts (h.below hb)
  have htk := fun W (hb : Below w.heap.size w W) hk => take_walk W P g n c i ts (h.below hb) hk
  cases hy : isin ks (tel ts i).k
  · have HIS := Lib.hid his; have HND := Lib.hid hnd; have HBOX := Lib.hid hbox; have HY := Lib.hid hy
    unfold thrown strayV at HND
    clear his hnd hbox h htk hp hs hm
    go_enter Tryz.func38, Tryz.ntmps38
    go_wp2_with (fail)
    refine (HIS.out _ ?_).mono ?_
    · first | exact Below.refl _ _ | exact HBOX.out _
    rintro e w1 ⟨rfl, hb1⟩
    rw [HY.out]
    have HB1 := Lib.hid hb1
    clear hb1
    go_wp2_with (fail)
    refine (HND.out _ ?_).mono ?_
    · first | exact HB1.out | exact (HBOX.out _).trans (HB1.out.mono (HBOX.out _).size)
    rintro e w2 ⟨rfl, hb2⟩
    have HB2 := Lib.hid hb2
    clear hb2
    go_wp2_with (fail)
    refine ⟨rfl, .inr ⟨HY.out, rfl, Off.of_below ?_⟩⟩
    first | exact HB1.out.trans (HB2.out.mono HB1.out.size) | exact ((HBOX.out _).trans (HB1.out.mono (HBOX.out _).size)).trans (HB2.out.mono ((HBOX.out _).trans (HB1.out.mono (HBOX.out _).size)).size)
  · have hne : (tel ts i).k ≠ 6 := fun e => by rw [e, h6] at hy; cases hy
    have htk' := fun W (hb : Below w.heap.size w W) => htk W hb (h.more hne)
    have hfin : ∀ (W w1 W' : World) (e : Ending), Below w.heap.size w W → Off P W w1 → PAt w1 P g n c (i + 1) → Below w.heap.size w1 W' → e = .returned (tokV (tel ts i)) → OneEnd P g n c i ts ks w e W' := fun W w1 W' e hb ho hp hb2 he =>
      .inl ⟨hy, he, ((Off.of_below hb).trans ho).then hb2, (h.next ((Off.of_below hb).trans ho) hp hne).keep hb2 h.old.1 h.old.2⟩
    obtain ⟨hPo, hgo⟩ := h.old
    have HIS := Lib.hid his; have HTK := Lib.hid htk'; have HBOX := Lib.hid hbox; have HY := Lib.hid hy; have HFIN := Lib.hid hfin; have HOLD := Lib.hid (And.intro hPo hgo)
    unfold tokV at HTK HFIN
    clear his hnd hbox h htk htk' hp hs hm hfin hne hPo hgo
    go_enter Tryz.func38, Tryz.ntmps38
    go_wp2_with (fail)
    refine (HIS.out _ (HBOX.out _)).mono ?_
    rintro e w1 ⟨rfl, hb1⟩
    rw [HY.out]
    obtain ⟨h1, h2⟩ := one_box hb1
    have HB1 := Lib.hid h2; have H1 := Lib.hid h1
    clear hb1 h1 h2
    go_wp2_with (fail)
    refine (need_ok _ _).mono ?_
    rintro e w2 ⟨rfl, rfl⟩
    go_wp2_with (fail)
    refine (HTK.out w1 HB1.out).mono ?_
    rintro e w2 ⟨rfl, ho, hp⟩
    have r := (ho.block w.heap.size (lt_of_block H1.out) (by have := HOLD.out.1; omega)).trans H1.out
    have rl := lt_of_block r
    obtain ⟨⟨r0, r1, r2⟩, f0, f1, f2⟩ := cells3 r
    have HO := Lib.hid ho; have HP := Lib.hid hp
    clear ho hp r
    go_wp2_with (fail)
    refine bodyPost_ret (v := .agg #[.int .u8 (tel ts i).k, .string (tel ts i).s, .int .i64 (tel ts i).a]) (by simp [results, Tryz.results38, go_sem, r0, r1, r2]) rfl (HFIN.out w1 w2 _ _ HB1.out HO.out HP.out (Below.set3 w _ _ (Nat.le_refl _) _ _ _) rfl)

theorem bytes_alloc (w : World) (t : TypeId) (ks : List Int) : BytesAt (w.alloc (.cells (ks.map (Value.int .u8)).toArray t)) (some ⟨w.heap.size, 0, none⟩) ks := by
  refine .inr ⟨w.heap.size, 0, rfl, fun i hi => ?_⟩
  rw [Nat.zero_add, World.cell?_alloc_mark]
  rw [List.getElem?_toArray, List.getElem?_map, List.getD_eq_getElem?_getD, List.getElem?_eq_getElem hi]
  rfl
/-- A name's text, or an exception's: of a token of the kind kd. -/
def NameEnd (P g n c i : Nat) (ts : List Tok) (kd : Int) (w : World) (e : Ending) (w' : World) : Prop :=
  ((tel ts i).k = kd ∧ e = .returned (.string (tel ts i).s) ∧ Off P w w' ∧ PR w' P g n c (i + 1) ts) ∨ ((tel ts i).k ≠ kd ∧ e = thrown (tel ts i) ∧ Off P w w')
theorem one_name {P g n c i : Nat} {ts : List Tok} {kd : Int} {w W : World} {O : Obj} (hW : W = w.alloc O) :
    (∀ {e : Ending} {w' : World}, OneEnd P g n c i ts [kd] W e w' → ((tel ts i).k = kd ∧ e = .returned (tokV (tel ts i)) ∧ Off P w w' ∧ PR w' P g n c (i + 1) ts) ∨ ((tel ts i).k ≠ kd ∧ e = thrown (tel ts i) ∧ Off P w w')) := by
  rintro e w' (⟨h1, h2, h3, h4⟩ | ⟨h1, h2, h3⟩)
  · exact .inl ⟨by unfold isin at h1; simpa using h1, h2, (Off.alloc (Off.refl P w) O).trans (hW ▸ h3), h4⟩
  · exact .inr ⟨by unfold isin at h1; simpa using h1, h2, (Off.alloc (Off.refl P w) O).trans (hW ▸ h3)⟩
set_option maxRecDepth 10000 in
set_option maxHeartbeats 3200000 in
theorem name_walk (w : World) (P g n c i : Nat) (ts : List Tok) (h : PR w P g n c i ts) :
    Calls Tryz.prog 67 #[.pointer (some ⟨P, 0, none⟩)] w (NameEnd P g n c i ts 2 w) := by
  have hbox : ∀ O : Obj, Below w.heap.size w (w.alloc O) := fun O => (Below.refl _ _).alloc (Nat.le_refl _) O
  have hon := fun t => (one_walk (w.alloc (.cells #[.int .u8 2] t)) P g n c i ts (some ⟨w.heap.size, 0, none⟩) 1 1 [2] (h.below (hbox _)) rfl (by unfold maxLen; omega) (fun W hb => by
    have := bytes_alloc w t [2]
    rcases this with hh | ⟨b, o, e, hc⟩
    · cases hh
    · exact .inr ⟨b, o, e, fun j hj => (hb.cell (p := ⟨b, o + j, none⟩) (World.block_lt_of_cell? _ _ (hc j hj))).trans (hc j hj)⟩) (by decide)).mono (fun e w' he => one_name rfl he)
  have HON := Lib.hid hon
  unfold tokV thrown strayV at HON
  clear hon hbox h
  have hf := fieldTok1
  go_enter Tryz.func67, Tryz.ntmps67
  go_wp2_with (fail)
  refine (HON.out _).mono ?_
  rintro e w1 (⟨h1, rfl, h2, h3⟩ | ⟨h1, rfl, h2⟩)
  · have H := Lib.hid (And.intro h1 (And.intro h2 h3))
    clear h1 h2 h3
    go_wp2_with (fail)
    go_ret
    exact .inl ⟨H.out.1, rfl, H.out.2⟩
  · have H := Lib.hid (And.intro h1 h2)
    clear h1 h2
    go_wp2_with (fail)
    exact ⟨rfl, .inr ⟨H.out.1, rfl, H.out.2⟩⟩
set_option maxRecDepth 10000 in
set_option maxHeartbeats 3200000 in
theorem exn_walk (w : World) (P g n c i : Nat) (ts : List Tok) (h : PR w P g n c i ts) :
    Calls Tryz.prog 70 #[.pointer (some ⟨P, 0, none⟩)] w (NameEnd P g n c i ts 3 w) := by
  have hbox : ∀ O : Obj, Below w.heap.size w (w.alloc O) := fun O => (Below.refl _ _).alloc (Nat.le_refl _) O
  have hon := fun t => (one_walk (w.alloc (.cells #[.int .u8 3] t)) P g n c i ts (some ⟨w.heap.size, 0, none⟩) 1 1 [3] (h.below (hbox _)) rfl (by unfold maxLen; omega) (fun W hb => by
    have := bytes_alloc w t [3]
    rcases this with hh | ⟨b, o, e, hc⟩
    · cases hh
    · exact .inr ⟨b, o, e, fun j hj => (hb.cell (p := ⟨b, o + j, none⟩) (World.block_lt_of_cell? _ _ (hc j hj))).trans (hc j hj)⟩) (by decide)).mono (fun e w' he => one_name rfl he)
  have HON := Lib.hid hon
  unfold tokV thrown strayV at HON
  clear hon hbox h
  have hf := fieldTok1
  go_enter Tryz.func70, Tryz.ntmps70
  go_wp2_with (fail)
  refine (HON.out _).mono ?_
  rintro e w1 (⟨h1, rfl, h2, h3⟩ | ⟨h1, rfl, h2⟩)
  · have H := Lib.hid (And.intro h1 (And.intro h2 h3))
    clear h1 h2 h3
    go_wp2_with (fail)
    go_ret
    exact .inl ⟨H.out.1, rfl, H.out.2⟩
  · have H := Lib.hid (And.intro h1 h2)
    clear h1 h2
    go_wp2_with (fail)
    exact ⟨rfl, .inr ⟨H.out.1, rfl, H.out.2⟩⟩

/-- A head, by value. -/
def headV (k op a nn : Int) (nm ar ex : ByteArray) : Value := .agg #[.int .u8 k, .int .u8 op, .int .i64 a, .int .i64 nn, .string nm, .string ar, .string ex]
set_option maxRecDepth 10000 in
set_option maxHeartbeats 3200000 in
theorem head_walk (w : World) (P g n c i : Nat) (ts : List Tok) (kd : Int) (h : PR w P g n c i ts) (hk : (tel ts i).k ≠ 6) :
    Calls Tryz.prog 66 #[.pointer (some ⟨P, 0, none⟩), .int .u8 kd] w fun e w' => e = .returned (headV kd 0 (tel ts i).a 0 ⟨#[]⟩ ⟨#[]⟩ ⟨#[]⟩) ∧ Off P w w' ∧ PR w' P g n c (i + 1) ts := by
  have hbox : ∀ O : Obj, Below w.heap.size w (w.alloc O) := fun O => (Below.refl _ _).alloc (Nat.le_refl _) O
  have hpr := fun O => h.below (hbox O)
  have htk := fun O => (take_walk (w.alloc O) P g n c i ts (hpr O) (h.more hk)).mono fun e w' he => (show e = .returned (tokV (tel ts i)) ∧ Off P (w.alloc O) w' ∧ PR w' P g n c (i + 1) ts from ⟨he.1, he.2.1, (hpr O).next he.2.1 he.2.2 hk⟩)
  have hold := h.old
  have HTK := Lib.hid htk; have HOLD := Lib.hid hold
  unfold tokV at HTK
  unfold headV
  clear htk h hk hold hpr hbox
  have hf := fieldTok2
  go_enter Tryz.func66, Tryz.ntmps66
  go_wp2_with (fail)
  refine (HTK.out _).mono ?_
  rintro e w1 ⟨rfl, h1, h2⟩
  obtain ⟨h3, h4⟩ := box_off h1 HOLD.out.1
  have rl := lt_of_block h3
  obtain ⟨⟨r0, r1, r2, r3, r4, r5, r6⟩, f0, f1, f2, f3, f4, f5, f6⟩ := cells7' h3
  have H2 := Lib.hid h2; have H4 := Lib.hid h4
  clear h1 h2 h3 h4
  go_wp2_with (fail)
  refine bodyPost_ret (v := .agg #[.int .u8 kd, .int .u8 0, .int .i64 (tel ts i).a, .int .i64 0, .string ⟨#[]⟩, .string ⟨#[]⟩, .string ⟨#[]⟩]) (by simp [results, Tryz.results66, go_sem, r0, r1, r2, r3, r4, r5, r6]) rfl ⟨rfl, ?_, ?_⟩
  · exact H4.out.then (Below.set7 w _ _ (Nat.le_refl _) _ _ _ _ _ _ _)
  · exact H2.out.keep (Below.set7 w _ _ (Nat.le_refl _) _ _ _ _ _ _ _) HOLD.out.1 HOLD.out.2
end Parse
end Go.Proofs.YtlmaphaipcfppaaGreatDoor
