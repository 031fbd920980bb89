/-The program's reading of tokens: the small methods. The program's reading of tokens: words, names, heads of terms. The program's reading of tokens: terms are made. The program's reading of tokens: leaves. The program's reading of tokens: parts that are handed on. The program's reading of tokens: what the terms with words share. -/
import Derived.Test.YtadpjkehflokcaaGreatDoorGParseA
import Derived.Test.YtadpjkehflokcaaGreatDoorGParseB
import Derived.Test.YtadpjkehflokcaaGreatDoorGTermB
import Derived.Test.YtadpjkehflokcaaGreatDoorGWordsB
import Derived.Deep.RegionHeld3
namespace Go.Proofs.YtadpjkehflokcaaGreatDoor
open Go.RowKit
set_option linter.unusedVariables false
namespace Parse
open Token (Tok tel ToksAt)
open Term (Tm Hd TmIs Kids ret_bool ret_i64 Reads veil)
open Words (str_no str_yes)

/-- The parser's variable, in block P: the tokens that are left. -/
def PAt (w : World) (P g n c i : Nat) : Prop := w.heap[P]? = some (.cells #[.slice (some ⟨g, i * 3, none⟩) ((n : Int) - (i : Int)).toNat ((c : Int) - (i : Int)).toNat] 86 (0, 0))
theorem PAt.cell {w : World} {P g n c i : Nat} (h : PAt w P g n c i) : w.cell? ⟨P, 0, none⟩ = some (.slice (some ⟨g, i * 3, none⟩) ((n : Int) - (i : Int)).toNat ((c : Int) - (i : Int)).toNat) ∧ w.frozen? ⟨P, 0, none⟩ = false := by
  unfold PAt at h
  simp [World.cell?, World.frozen?, h]
/-- Nothing but block P is written. -/
structure Off (P : Nat) (w w' : World) : Prop where
  os : w'.os = w.os
  tape : w'.tape = w.tape
  output : w'.output = w.output
  size : w.heap.size ≤ w'.heap.size
  block : ∀ k, k < w.heap.size → k ≠ P → w'.heap[k]? = w.heap[k]?
theorem Off.refl (P : Nat) (w : World) : Off P w w := ⟨rfl, rfl, rfl, Nat.le_refl _, fun _ _ _ => rfl⟩
theorem Off.trans {P : Nat} {a b c : World} (h : Off P a b) (k : Off P b c) : Off P a c :=
  ⟨k.os.trans h.os, k.tape.trans h.tape, k.output.trans h.output, Nat.le_trans h.size k.size, fun i hi hn => (k.block i (Nat.lt_of_lt_of_le hi h.size) hn).trans (h.block i hi hn)⟩
theorem Off.of_below {P : Nat} {w w' : World} (h : Below w.heap.size w w') : Off P w w' := ⟨h.os, h.tape, h.output, h.size, fun k hk _ => h.block k hk⟩
theorem Off.setP {P : Nat} {w w' : World} (h : Off P w w') (o : Nat) (v : Value) : Off P w (w'.setCell ⟨P, o, none⟩ v) :=
  ⟨h.os, h.tape, h.output, by simpa [World.setCell] using h.size, fun k hk hn => (Below.heap_setCell _ _ _ _ hn).trans (h.block k hk hn)⟩
theorem Off.setNew {P : Nat} {w w' : World} (h : Off P w w') {b : Nat} (hb : w.heap.size ≤ b) (o : Nat) (v : Value) : Off P w (w'.setCell ⟨b, o, none⟩ v) :=
  ⟨h.os, h.tape, h.output, by simpa [World.setCell] using h.size, fun k hk hn => (Below.heap_setCell _ _ _ _ (by show k ≠ b; omega)).trans (h.block k hk hn)⟩
theorem Off.alloc {P : Nat} {w w' : World} (h : Off P w w') (O : Obj) : Off P w (w'.alloc O) :=
  ⟨h.os, h.tape, h.output, by have := h.size; simp; omega, fun k hk hn => (Below.heap_alloc _ _ _ (by have := h.size; omega)).trans (h.block k hk hn)⟩
theorem PAt.alloc {w : World} {P g n c i : Nat} (h : PAt w P g n c i) (O : Obj) : PAt (w.alloc O) P g n c i := by
  have hl := lt_of_block h
  unfold PAt at h ⊢
  rw [Below.heap_alloc _ _ _ hl]
  exact h
theorem PAt.other {w : World} {P g n c i : Nat} (h : PAt w P g n c i) {b : Nat} (hb : P ≠ b) (o : Nat) (v : Value) : PAt (w.setCell ⟨b, o, none⟩ v) P g n c i := by
  unfold PAt at h ⊢
  rw [Below.heap_setCell _ _ _ _ hb]
  exact h
theorem PAt.set {w : World} {P g n c i : Nat} (h : PAt w P g n c i) {a m d : Nat} (j : Nat) (ha : a = j * 3) (hm : m = ((n : Int) - (j : Int)).toNat) (hd : d = ((c : Int) - (j : Int)).toNat) : PAt (w.setCell ⟨P, 0, none⟩ (.slice (some ⟨g, a, none⟩) m d)) P g n c j := by
  unfold PAt at h ⊢
  have hl := lt_of_block h
  subst ha hm hd
  simp [World.setCell, Array.getElem?_modify, h]
theorem PAt.off {w w' : World} {P g n c i : Nat} (h : PAt w P g n c i) (hb : Below w.heap.size w w') : PAt w' P g n c i := by
  unfold PAt at h ⊢
  rw [hb.block P (lt_of_block h)]
  exact h
/-- The tokens stand in another block. -/
theorem RowAt.off {w W : World} {P g n c : Nat} {ts : List Tok} (h : RowAt w g n c ts) (hg : g ≠ P) (hb : Off P w W) : RowAt W g n c ts := by
  refine ⟨fun i hi => ?_, h.len, h.cap, h.small, h.row, h.texts, h.places⟩
  obtain ⟨h0, h1, h2⟩ := h.toks i hi
  have hl : g < w.heap.size := World.block_lt_of_cell? w _ h0
  have e : ∀ o : Nat, W.cell? ⟨g, o, none⟩ = w.cell? ⟨g, o, none⟩ := fun o => World.cell?_of_block (a := ⟨g, o, none⟩) (hb.block g hl hg)
  exact ⟨(e _).trans h0, (e _).trans h1, (e _).trans h2⟩
/-- What the parser's calls may rely on. -/
structure PR (w : World) (P g n c i : Nat) (ts : List Tok) : Prop where
  row : RowAt w g n c ts
  ne : g ≠ P
  good : Good ts
  lt : i < n
  at_ : PAt w P g n c i
theorem PR.below {w W : World} {P g n c i : Nat} {ts : List Tok} (h : PR w P g n c i ts) (hb : Below w.heap.size w W) : PR W P g n c i ts :=
  ⟨h.row.below hb, h.ne, h.good, h.lt, h.at_.off hb⟩
def vis (P : Nat) (w : World) : World := veil (fun i => decide (i ≠ P)) w
theorem Off.reads {P : Nat} {w w' : World} (h : Off P w w') : Reads (vis P w) (vis P w') := Term.veil_to fun b hb hp => ⟨hp, h.block b hb (of_decide_eq_true hp)⟩

/-- A token, by value. -/
def tokV (t : Tok) : Value := .agg #[.int .u8 t.k, .string t.s, .int .i64 t.a]
/-- A token that can't stand is thrown. -/
def strayV (t : Tok) : Value := .iface 84 (.agg #[.int .u8 t.k, .string t.s, .int .i64 t.a])
def thrown (t : Tok) : Ending := .panicked [{ v := strayV t, recovered := false }]

theorem fieldTok0 (k a : Int) (s : ByteArray) (w : World) : (Instr.field 46 (.agg #[.int .u8 k, .string s, .int .i64 a]) 0).run Tryz.prog w = .ok (.int .u8 k) w := by kernel_rfl
theorem fieldTok1 (k a : Int) (s : ByteArray) (w : World) : (Instr.field 46 (.agg #[.int .u8 k, .string s, .int .i64 a]) 1).run Tryz.prog w = .ok (.string s) w := by kernel_rfl
theorem fieldTok2 (k a : Int) (s : ByteArray) (w : World) : (Instr.field 46 (.agg #[.int .u8 k, .string s, .int .i64 a]) 2).run Tryz.prog w = .ok (.int .i64 a) w := by kernel_rfl
/-- What the walks see of it. -/
theorem PR.open {w : World} {P g n c i : Nat} {ts : List Tok} (h : PR w P g n c i ts) :
    ∃ m d : Nat, ((n : Int) - (i : Int)).toNat = m ∧ ((c : Int) - (i : Int)).toNat = d ∧ w.cell? ⟨P, 0, none⟩ = some (.slice (some ⟨g, i * 3, none⟩) m d) ∧ w.frozen? ⟨P, 0, none⟩ = false ∧ 1 ≤ m ∧ m ≤ d ∧
      w.cell? ⟨g, i * 3, none⟩ = some (.int .u8 (tel ts i).k) ∧ w.cell? ⟨g, i * 3 + 1, none⟩ = some (.string (tel ts i).s) ∧ w.cell? ⟨g, i * 3 + 2, none⟩ = some (.int .i64 (tel ts i).a) := by
  obtain ⟨h1, h2⟩ := h.at_.cell
  obtain ⟨t0, t1, t2⟩ := h.row.toks i (by rw [h.row.len]; exact h.lt)
  have := h.lt
  have := h.row.cap
  exact ⟨_, _, rfl, rfl, h1, h2, by omega, by omega, t0, t1, t2⟩

set_option maxRecDepth 10000 in
set_option maxHeartbeats 3200000 in
theorem next_walk (w : World) (P g n c i : Nat) (ts : List Tok) (h : PR w P g n c i ts) :
    Calls Tryz.prog 51 #[.pointer (some ⟨P, 0, none⟩)] w fun e w' => e = .returned (tokV (tel ts i)) ∧ Below w.heap.size w w' := by
  obtain ⟨m, d, _, _, p0, p1, hm, hmd, t0, t1, t2⟩ := h.open
  have hm0 : (0 : Int) < (m : Int) := by omega
  have hgl := World.block_lt_of_cell? w _ t0
  have hpl := World.block_lt_of_cell? w _ p0
  simp only at hgl hpl
  have hbox : ∀ O : Obj, Below w.heap.size w (w.alloc O) := fun O => (Below.refl _ _).alloc (Nat.le_refl _) O
  have HBOX := Lib.hid hbox
  unfold tokV
  clear h hbox
  go_enter Tryz.func51, Tryz.ntmps51
  go_wp2
  refine bodyPost_ret (v := .agg #[.int .u8 (tel ts i).k, .string (tel ts i).s, .int .i64 (tel ts i).a]) (by simp [results, Tryz.results51, go_sem]) rfl ⟨rfl, HBOX.out _⟩

/-- An index of a text in a row, or -1. -/
def IsAt (ss : List ByteArray) (x : ByteArray) (e : Ending) : Prop := ∃ r : Int, e = .returned (.int .i64 r) ∧ (inF ss x = true → 0 ≤ r) ∧ (inF ss x = false → r < 0)
theorem in_true {ss : List ByteArray} {x : ByteArray} {k : Nat} (hk : k < ss.length) (h : Words.sel ss k = x) : inF ss x = true := List.any_eq_true.2 ⟨_, Words.sel_mem hk, decide_eq_true h⟩
theorem in_false {ss : List ByteArray} {x : ByteArray} (h : ∀ j, j < ss.length → Words.sel ss j ≠ x) : inF ss x = false := by
  unfold inF
  rw [List.any_eq_false]
  intro y hy
  obtain ⟨j, hj, e⟩ := List.getElem_of_mem hy
  have h1 := h j hj
  have h2 : Words.sel ss j = y := by unfold Words.sel; rw [List.getD_eq_getElem?_getD, List.getElem?_eq_getElem hj, e]; rfl
  rw [h2] at h1
  simpa using h1
theorem index_strs (p : Option Addr) (n d : Nat) (ss : List ByteArray) (x : ByteArray) (w : World) (hn : ss.length = n) (hm : n ≤ maxLen) (hp : Words.StrsAt w p ss) :
    Calls Tryz.prog 112 #[.slice p n d, .string x] w fun e w' => IsAt ss x e ∧ w = w' := by
  unfold maxLen at hm
  have HP := Lib.hid hp; clear hp
  have HL := Lib.hid hn; clear hn
  go_enter Tryz.func112, Tryz.ntmps112
  go_wp2
  go_loop [5, 8] (fun _ i => ∃ k : Nat, k ≤ n ∧ i = .int .i64 k ∧ Hid (∀ j, j < k → Words.sel ss j ≠ x)) (fun _ i => n - (intOf i).toNat)
  case atStart => exact ⟨0, by omega, rfl, Lib.hid (fun j hj => by omega)⟩
  case round =>
    obtain ⟨k, hk, rfl, HA⟩ := hrel
    by_cases hlt : k < n
    · have hk' : k < ss.length := by rw [HL.out]; exact hlt
      obtain ⟨b, o, rfl, hcs⟩ := HP.out.get k hk'
      have hck := hcs k hk'
      have HK := Lib.hid hk'
      clear hcs hk'
      generalize hy : Words.sel ss k = y at *
      have HY := Lib.hid hy
      clear hy
      by_cases hyx : y = x
      · have n1 : (x.toList == y.toList) = true := str_yes hyx.symm
        have HYX := Lib.hid hyx
        clear hyx
        go_wp2
        go_ret
        have hin := in_true HK.out (HY.out.trans HYX.out)
        refine ⟨⟨k, rfl, fun _ => by omega, fun h => ?_⟩, rfl⟩
        rw [hin] at h
        cases h
      · have n1 : (x.toList == y.toList) = false := str_no fun e => hyx e.symm
        have HYX := Lib.hid hyx
        clear hyx
        go_wp2
        go_round
        case rel =>
          refine ⟨k + 1, by omega, by go_num, Lib.hid (fun j hj => ?_)⟩
          by_cases hjk : j = k
          · rw [hjk, HY.out]; exact HYX.out
          · exact HA.out j (by omega)
        case measure => simp [intOf]; omega
    · obtain rfl : k = n := by omega
      go_wp2
      go_ret
      have hin := in_false (ss := ss) (x := x) (fun j hj => HA.out j (by rw [← HL.out]; exact hj))
      refine ⟨⟨-1, rfl, fun h => ?_, fun h => by omega⟩, rfl⟩
      rw [hin] at h
      cases h
theorem contains_strs (p : Option Addr) (n d : Nat) (ss : List ByteArray) (x : ByteArray) (w : World) (hn : ss.length = n) (hm : n ≤ maxLen) (hp : Words.StrsAt w p ss) :
    Calls Tryz.prog 79 #[.slice p n d, .string x] w fun e w' => e = .returned (.bool (inF ss x)) ∧ w = w' := by
  have HB := Lib.hid hp; clear hp
  have HL := Lib.hid hn; clear hn
  go_enter Tryz.func79, Tryz.ntmps79
  go_wp2_with (fail)
  refine (index_strs p n d ss x w HL.out hm HB.out).mono ?_
  rintro e w' ⟨⟨r, rfl, h1, h2⟩, rfl⟩
  have H1 := Lib.hid h1; have H2 := Lib.hid h2; clear h1 h2
  go_wp2
  go_ret
  refine ⟨ret_bool ?_, rfl⟩
  have h1 := H1.out; have h2 := H2.out
  cases hi : inF ss x
  · have := h2 hi; simp; omega
  · have := h1 hi; simp; omega

set_option maxRecDepth 10000 in
set_option maxHeartbeats 3200000 in
/-- Is the next token one of these words? -/
theorem is_walk (w : World) (P g n c i : Nat) (ts : List Tok) (p : Option Addr) (l d : Nat) (ss : List ByteArray) (h : PR w P g n c i ts) (hs : ss.length = l) (hm : l ≤ maxLen) (hp : Words.StrsAt w p ss) (hw : ∀ x ∈ ss, x ∈ wordsL) :
    Calls Tryz.prog 43 #[.pointer (some ⟨P, 0, none⟩), .slice p l d] w fun e w' => e = .returned (.bool (inF ss (textOf ts i))) ∧ Below w.heap.size w w' := by
  have hin : inF ss (tel ts i).s = inF ss (textOf ts i) := h.good.in_text (by rw [h.row.len]; exact h.lt) hw
  have hnx := fun W (hb : Below w.heap.size w W) => next_walk W P g n c i ts (h.below hb)
  have hct := fun W (hb : Below w.heap.size w W) x => contains_strs p l d ss x W hs hm (hp.below hb)
  have hbox : ∀ O : Obj, Below w.heap.size w (w.alloc O) := fun O => (Below.refl _ _).alloc (Nat.le_refl _) O
  have HNX := Lib.hid hnx; have HCT := Lib.hid hct; have HIN := Lib.hid hin; have HBOX := Lib.hid hbox
  unfold tokV at HNX
  clear hnx hct hin hbox h hp hw
  have hf := fieldTok1
  go_enter Tryz.func43, Tryz.ntmps43
  go_wp2_with (fail)
  refine (HNX.out _ (Below.refl _ _)).mono ?_
  rintro e w1 ⟨rfl, hb1⟩
  have HB1 := Lib.hid hb1
  clear hb1
  go_wp2_with (fail)
  refine (HCT.out w1 HB1.out _).mono ?_
  rintro e w2 ⟨rfl, rfl⟩
  go_wp2_with (fail)
  go_ret
  exact ⟨ret_bool HIN.out, HB1.out⟩

/-- A box just laid, later. -/
theorem one_box {w W : World} {A : Obj} (hb : Below (w.alloc A).heap.size (w.alloc A) W) : W.heap[w.heap.size]? = some A ∧ Below w.heap.size w W := by
  have s1 : (w.alloc A).heap.size = w.heap.size + 1 := by simp
  refine ⟨?_, ((Below.refl _ _).alloc (Nat.le_refl _) A).trans (hb.mono (by omega))⟩
  rw [hb.block _ (by omega)]
  exact heap_alloc_new w A
set_option maxRecDepth 10000 in
set_option maxHeartbeats 3200000 in
/-- A token is taken. -/
theorem take_walk (w : World) (P g n c i : Nat) (ts : List Tok) (h : PR w P g n c i ts) (hin : i + 1 < n) :
    Calls Tryz.prog 44 #[.pointer (some ⟨P, 0, none⟩)] w fun e w' => e = .returned (tokV (tel ts i)) ∧ Off P w w' ∧ PAt w' P g n c (i + 1) := by
  have hnx := fun W (hb : Below w.heap.size w W) => next_walk W P g n c i ts (h.below hb)
  have hpr := fun W (hb : Below w.heap.size w W) => h.below hb
  have hbox : ∀ O : Obj, Below w.heap.size w (w.alloc O) := fun O => (Below.refl _ _).alloc (Nat.le_refl _) O
  have hP := lt_of_block h.at_
  have hc := h.row.cap
  have HNX := Lib.hid hnx; have HPR := Lib.hid hpr; have HBOX := Lib.hid hbox; have HIN := Lib.hid hin; have HC := Lib.hid hc
  unfold tokV at HNX ⊢
  clear hnx hpr h hbox hin hc
  have hPn : ¬ P = w.heap.size := by omega
  have hPn' : ¬ w.heap.size = P := by omega
  go_enter Tryz.func44, Tryz.ntmps44
  go_wp2_with (fail)
  refine (HNX.out _ (HBOX.out _)).mono ?_
  rintro e w1 ⟨rfl, hb1⟩
  obtain ⟨h1, h2⟩ := one_box hb1
  obtain ⟨m, d, hm', hd', p0, p1, hm, hmd, t0, t1, t2⟩ := (HPR.out w1 h2).open
  have HMD := Lib.hid (And.intro hm' hd')
  have hm0 : (1 : Int) ≤ (m : Int) := by omega
  have hm1 : (m : Int) ≤ (d : Int) := by omega
  have hd1 : ¬ d = 1 := by have := HIN.out; have := HC.out; omega
  have hpl := World.block_lt_of_cell? w1 _ p0
  simp only at hpl
  obtain ⟨⟨r0, r1, r2⟩, f0, f1, f2⟩ := cells3 h1
  have rl := lt_of_block h1
  have HB1 := Lib.hid h2
  clear hb1 h1 h2 hm' hd'
  go_wp2_with (fail)
  refine bodyPost_ret (v := .agg #[.int .u8 (tel ts i).k, .string (tel ts i).s, .int .i64 (tel ts i).a]) (by simp [results, Tryz.results44, go_sem, rl, r0, r1, r2]) rfl ⟨rfl, ?_, ?_⟩
  · exact ((((Off.of_below HB1.out).setP 0 _).setNew (Nat.le_refl _) _ _).setNew (Nat.le_refl _) _ _).setNew (Nat.le_refl _) _ _ |>.alloc _
  · have hx := HMD.out
    have := HIN.out
    exact (((((HPR.out w1 HB1.out).at_.set (i + 1) (by omega) (by omega) (by omega)).other hPn _ _).other hPn _ _).other hPn _ _).alloc _

set_option maxRecDepth 10000 in
set_option maxHeartbeats 3200000 in
theorem need_walk (w : World) (P g n c i : Nat) (ts : List Tok) (h : PR w P g n c i ts) :
    Calls Tryz.prog 41 #[.pointer (some ⟨P, 0, none⟩), .bool false] w fun e w' => e = thrown (tel ts i) ∧ Below w.heap.size w w' := by
  have hnx := fun W (hb : Below w.heap.size w W) => next_walk W P g n c i ts (h.below hb)
  have hbox : ∀ O : Obj, Below w.heap.size w (w.alloc O) := fun O => (Below.refl _ _).alloc (Nat.le_refl _) O
  have HNX := Lib.hid hnx; have HBOX := Lib.hid hbox
  unfold tokV at HNX
  unfold thrown strayV
  clear hnx h hbox
  go_enter Tryz.func41, Tryz.ntmps41
  go_wp2_with (fail)
  refine (HNX.out _ (Below.refl _ _)).mono ?_
  rintro e w1 ⟨rfl, hb1⟩
  have HB1 := Lib.hid hb1
  clear hb1
  go_wp2_with (fail)
  exact ⟨rfl, rfl, HB1.out⟩
end Parse
end Go.Proofs.YtadpjkehflokcaaGreatDoor
namespace Go.Proofs.YtadpjkehflokcaaGreatDoor
open Go.RowKit
set_option linter.unusedVariables false
namespace Parse
open Token (Tok tel ToksAt)
open Term (Tm Hd TmIs Kids ret_bool ret_i64 Reads veil)
open Words (str_no str_yes)
open Chars (isin BytesAt)

/-- The next token is behind that one. -/
theorem PR.next {w w' : World} {P g n c i : Nat} {ts : List Tok} (h : PR w P g n c i ts) (ho : Off P w w') (hp : PAt w' P g n c (i + 1)) (hk : (tel ts i).k ≠ 6) : PR w' P g n c (i + 1) ts :=
  ⟨h.row.off h.ne ho, h.ne, h.good, by have := h.good.row.next ts (i := i) (by rw [h.row.len]; exact h.lt) hk; rw [h.row.len] at this; exact this, hp⟩
theorem PR.more {w : World} {P g n c i : Nat} {ts : List Tok} (h : PR w P g n c i ts) (hk : (tel ts i).k ≠ 6) : i + 1 < n := by
  have := h.good.row.next ts (i := i) (by rw [h.row.len]; exact h.lt) hk
  rw [h.row.len] at this
  exact this
theorem text_not_end {ts : List Tok} {i : Nat} {x : ByteArray} (hx : x ∈ wordsL) (h : textOf ts i = x) : (tel ts i).k ≠ 6 := by
  have := textOf_some ts (i := i) (by rw [h]; exact (words_apart x hx).2.2.2)
  omega

theorem PR.old {w : World} {P g n c i : Nat} {ts : List Tok} (h : PR w P g n c i ts) : P < w.heap.size ∧ g < w.heap.size := by
  refine ⟨lt_of_block h.at_, ?_⟩
  obtain ⟨t0, _, _⟩ := h.row.toks i (by rw [h.row.len]; exact h.lt)
  exact World.block_lt_of_cell? w _ t0
/-- Where only newer blocks are written. -/
theorem PR.keep {w W : World} {P g n c i B : Nat} {ts : List Tok} (h : PR w P g n c i ts) (hb : Below B w W) (hP : P < B) (hg : g < B) : PR W P g n c i ts := by
  refine ⟨⟨fun j hj => ?_, h.row.len, h.row.cap, h.row.small, h.row.row, h.row.texts, h.row.places⟩, h.ne, h.good, h.lt, ?_⟩
  · obtain ⟨h0, h1, h2⟩ := h.row.toks j hj
    have e : ∀ o : Nat, W.cell? ⟨g, o, none⟩ = w.cell? ⟨g, o, none⟩ := fun o => World.cell?_of_block (a := ⟨g, o, none⟩) (hb.block g hg)
    exact ⟨(e _).trans h0, (e _).trans h1, (e _).trans h2⟩
  · have := h.at_
    unfold PAt at this ⊢
    rw [hb.block P hP]
    exact this
theorem Off.then {P : Nat} {w w1 W : World} (h : Off P w w1) (hb : Below w.heap.size w1 W) : Off P w W :=
  ⟨hb.os.trans h.os, hb.tape.trans h.tape, hb.output.trans h.output, Nat.le_trans h.size hb.size, fun k hk hn => (hb.block k hk).trans (h.block k hk hn)⟩
theorem box_off {P : Nat} {w W : World} {O : Obj} (h : Off P (w.alloc O) W) (hP : P < w.heap.size) : W.heap[w.heap.size]? = some O ∧ Off P w W := by
  have s1 : (w.alloc O).heap.size = w.heap.size + 1 := by simp
  refine ⟨?_, ((Off.refl P w).alloc O).trans h⟩
  rw [h.block _ (by omega) (by omega)]
  exact heap_alloc_new w O
theorem Below.set3 (w W : World) (N : Nat) (hN : w.heap.size ≤ N) (a b c : Value) : Below w.heap.size W (((W.setCell ⟨N, 0, none⟩ a).setCell ⟨N, 1, none⟩ b).setCell ⟨N, 2, none⟩ c) :=
  (((Below.refl _ _).setCell hN _).setCell hN _).setCell hN _
theorem Below.set7 (w W : World) (N : Nat) (hN : w.heap.size ≤ N) (a b c d e f g : Value) : Below w.heap.size W (((((((W.setCell ⟨N, 0, none⟩ a).setCell ⟨N, 1, none⟩ b).setCell ⟨N, 2, none⟩ c).setCell ⟨N, 3, none⟩ d).setCell ⟨N, 4, none⟩ e).setCell ⟨N, 5, none⟩ f).setCell ⟨N, 6, none⟩ g) :=
  (((((((Below.refl _ _).setCell hN _).setCell hN _).setCell hN _).setCell hN _).setCell hN _).setCell hN _).setCell hN _
theorem Below.set8 (w W : World) (N : Nat) (hN : w.heap.size ≤ N) (a b c d e f g h : Value) : Below w.heap.size W ((((((((W.setCell ⟨N, 0, none⟩ a).setCell ⟨N, 1, none⟩ b).setCell ⟨N, 2, none⟩ c).setCell ⟨N, 3, none⟩ d).setCell ⟨N, 4, none⟩ e).setCell ⟨N, 5, none⟩ f).setCell ⟨N, 6, none⟩ g).setCell ⟨N, 7, none⟩ h) :=
  ((((((((Below.refl _ _).setCell hN _).setCell hN _).setCell hN _).setCell hN _).setCell hN _).setCell hN _).setCell hN _).setCell hN _
theorem cells7' {W : World} {N : Nat} {a0 a1 a2 a3 a4 a5 a6 : Value} {ty : TypeId} (h : W.heap[N]? = some (.cells #[a0, a1, a2, a3, a4, a5, a6] ty (0, 0))) :
    (W.cell? ⟨N, 0, none⟩ = some a0 ∧ W.cell? ⟨N, 1, none⟩ = some a1 ∧ W.cell? ⟨N, 2, none⟩ = some a2 ∧ W.cell? ⟨N, 3, none⟩ = some a3 ∧ W.cell? ⟨N, 4, none⟩ = some a4 ∧ W.cell? ⟨N, 5, none⟩ = some a5 ∧ W.cell? ⟨N, 6, none⟩ = some a6) ∧
    (W.frozen? ⟨N, 0, none⟩ = false ∧ W.frozen? ⟨N, 1, none⟩ = false ∧ W.frozen? ⟨N, 2, none⟩ = false ∧ W.frozen? ⟨N, 3, none⟩ = false ∧ W.frozen? ⟨N, 4, none⟩ = false ∧ W.frozen? ⟨N, 5, none⟩ = false ∧ W.frozen? ⟨N, 6, none⟩ = false) := by
  simp [World.cell?, World.frozen?, h]
theorem need_ok (w : World) (a : Value) :
    Calls Tryz.prog 41 #[a, .bool true] w fun e w' => e = .returned (.tuple #[]) ∧ w = w' := by
  go_enter Tryz.func41, Tryz.ntmps41
  go_wp2
  first | go_end0 | refine bodyPost_ret (results_none rfl _ _ _) rfl ?_
  exact ⟨rfl, rfl⟩

set_option maxRecDepth 10000 in
set_option maxHeartbeats 3200000 in
/-- Is the next token of one of these kinds? -/
theorem has_walk (w : World) (P g n c i : Nat) (ts : List Tok) (p : Option Addr) (l d : Nat) (ks : List Int) (h : PR w P g n c i ts) (hs : ks.length = l) (hm : l ≤ maxLen) (hp : ∀ W, Below w.heap.size w W → BytesAt W p ks) :
    Calls Tryz.prog 42 #[.pointer (some ⟨P, 0, none⟩), .slice p l d] w fun e w' => e = .returned (.bool (isin ks (tel ts i).k)) ∧ Below w.heap.size w w' := by
  have hnx := fun W (hb : Below w.heap.size w W) => next_walk W P g n c i ts (h.below hb)
  have hct := fun W (hb : Below w.heap.size w W) x => Chars.contains_walk p l d ks x W hs hm (hp W hb)
  have hbox : ∀ O : Obj, Below w.heap.size w (w.alloc O) := fun O => (Below.refl _ _).alloc (Nat.le_refl _) O
  have HNX := Lib.hid hnx; have HCT := Lib.hid hct; have HBOX := Lib.hid hbox
  unfold tokV at HNX
  clear hnx hct hbox h hp
  have hf := fieldTok0
  go_enter Tryz.func42, Tryz.ntmps42
  go_wp2_with (fail)
  refine (HNX.out _ (Below.refl _ _)).mono ?_
  rintro e w1 ⟨rfl, hb1⟩
  have HB1 := Lib.hid hb1
  clear hb1
  go_wp2_with (fail)
  refine (HCT.out w1 HB1.out _).mono ?_
  rintro e w2 ⟨rfl, rfl⟩
  go_wp2_with (fail)
  go_ret
  exact ⟨rfl, HB1.out⟩

/-- A word is taken, or what stands there is thrown. -/
def WordEnd (P g n c i : Nat) (ts : List Tok) (x : ByteArray) (w : World) (e : Ending) (w' : World) : Prop :=
  (textOf ts i = x ∧ e = .returned (.tuple #[]) ∧ Off P w w' ∧ PR w' P g n c (i + 1) ts) ∨ (textOf ts i ≠ x ∧ e = thrown (tel ts i) ∧ Off P w w')
set_option maxRecDepth 10000 in
set_option maxHeartbeats 3200000 in
theorem word_walk (w : World) (P g n c i : Nat) (ts : List Tok) (x : ByteArray) (h : PR w P g n c i ts) (hx : x ∈ wordsL) :
    Calls Tryz.prog 46 #[.pointer (some ⟨P, 0, none⟩), .string x] w (WordEnd P g n c i ts x w) := by
  have hbox : ∀ O : Obj, Below w.heap.size w (w.alloc O) := fun O => (Below.refl _ _).alloc (Nat.le_refl _) O
  have hst : ∀ t, Words.StrsAt (w.alloc (.cells #[.string x] t)) (some ⟨w.heap.size, 0, none⟩) [x] := fun t => strs_alloc w t [x]
  have his := fun t => is_walk (w.alloc (.cells #[.string x] t)) P g n c i ts (some ⟨w.heap.size, 0, none⟩) 1 1 [x] (h.below (hbox _)) rfl (by unfold maxLen; omega) (hst t) (fun y hy => by rw [List.mem_singleton] at hy; rw [hy]; exact hx)
  have hnd := fun W (hb : Below w.heap.size w W) => need_walk W P g n c i ts (h.below hb)
  have htk := fun W (hb : Below w.heap.size w W) hk => take_walk W P g n c i ts (h.below hb) hk
  have hin : inF [x] (textOf ts i) = decide (x = textOf ts i) := by unfold inF; simp
  by_cases hy : textOf ts i = x
  · rw [decide_eq_true hy.symm] at hin
    have hne := text_not_end hx hy
    have htk' := fun W (hb : Below w.heap.size w W) => htk W hb (h.more hne)
    have hfin : ∀ (W W' : World) (e : Ending), Below w.heap.size w W → Off P W W' → PAt W' P g n c (i + 1) → e = .returned (.tuple #[]) → WordEnd P g n c i ts x w e W' := fun W W' e hb ho hp he =>
      .inl ⟨hy, he, (Off.of_below hb).trans ho, h.next ((Off.of_below hb).trans ho) hp hne⟩
    have HIS := Lib.hid his; have HTK := Lib.hid htk'; have HIN := Lib.hid hin; have HBOX := Lib.hid hbox; have HFIN := Lib.hid hfin
    unfold tokV at HTK
    clear his htk htk' hin hbox hfin h hy hx hst hnd hne
    go_enter Tryz.func46, Tryz.ntmps46
    go_wp2_with (fail)
    refine (HIS.out _).mono ?_
    rintro e w1 ⟨rfl, hb1⟩
    rw [HIN.out]
    have HB1 := Lib.hid ((HBOX.out _).trans (hb1.mono (HBOX.out _).size))
    clear hb1
    go_wp2_with (fail)
    refine (need_ok _ _).mono ?_
    rintro e w2 ⟨rfl, rfl⟩
    go_wp2_with (fail)
    refine (HTK.out w1 HB1.out).mono ?_
    rintro e w2 ⟨rfl, ho, hp⟩
    have HO := Lib.hid ho; have HP := Lib.hid hp
    clear ho hp
    go_wp2_with (fail)
    go_end0
    exact HFIN.out w1 w2 _ HB1.out HO.out HP.out rfl
  · rw [decide_eq_false (fun e => hy e.symm)] at hin
    have HIS := Lib.hid his; have HND := Lib.hid hnd; have HIN := Lib.hid hin; have HBOX := Lib.hid hbox; have HY := Lib.hid hy
    unfold thrown strayV at HND
    clear his hnd hin hbox h htk hx hst hy
    go_enter Tryz.func46, Tryz.ntmps46
    go_wp2_with (fail)
    refine (HIS.out _).mono ?_
    rintro e w1 ⟨rfl, hb1⟩
    rw [HIN.out]
    have HB1 := Lib.hid ((HBOX.out _).trans (hb1.mono (HBOX.out _).size))
    clear hb1
    go_wp2_with (fail)
    refine (HND.out _ HB1.out).mono ?_
    rintro e w2 ⟨rfl, hb2⟩
    have HB2 := Lib.hid (HB1.out.trans (hb2.mono HB1.out.size))
    clear hb2
    go_wp2_with (fail)
    exact ⟨rfl, .inr ⟨HY.out, rfl, Off.of_below HB2.out⟩⟩

/-- A token of some kinds is taken, or what stands there is thrown. -/
def OneEnd (P g n c i : Nat) (ts : List Tok) (ks : List Int) (w : World) (e : Ending) (w' : World) : Prop :=
  (isin ks (tel ts i).k = true ∧ e = .returned (tokV (tel ts i)) ∧ Off P w w' ∧ PR w' P g n c (i + 1) ts) ∨ (isin ks (tel ts i).k = false ∧ e = thrown (tel ts i) ∧ Off P w w')
set_option maxRecDepth 10000 in
set_option maxHeartbeats 3200000 in
theorem one_walk (w : World) (P g n c i : Nat) (ts : List Tok) (p : Option Addr) (l d : Nat) (ks : List Int) (h : PR w P g n c i ts) (hs : ks.length = l) (hm : l ≤ maxLen) (hp : ∀ W, Below w.heap.size w W → BytesAt W p ks) (h6 : isin ks 6 = false) :
    Calls Tryz.prog 45 #[.pointer (some ⟨P, 0, none⟩), .slice p l d] w (OneEnd P g n c i ts ks w) := by
  have hbox : ∀ O : Obj, Below w.heap.size w (w.alloc O) := fun O => (Below.refl _ _).alloc (Nat.le_refl _) O
  have his := fun W (hb : Below w.heap.size w W) => has_walk W P g n c i ts p l d ks (h.below hb) hs hm (fun W' hb' => hp W' (hb.trans (hb'.mono hb.size)))
  have hnd := fun W (hb : Below w.heap.size w W) => need_walk W P g n c i ts (h.below hb)
  have htk := fun W (hb : Below w.heap.size w W) hk => take_walk W P g n c i ts (h.below hb) hk
  cases hy : isin ks (tel ts i).k
  · have HIS := Lib.hid his; have HND := Lib.hid hnd; have HBOX := Lib.hid hbox; have HY := Lib.hid hy
    unfold thrown strayV at HND
    clear his hnd hbox h htk hp hs hm
    go_enter Tryz.func45, Tryz.ntmps45
    go_wp2_with (fail)
    refine (HIS.out _ ?_).mono ?_
    · first | exact Below.refl _ _ | exact HBOX.out _
    rintro e w1 ⟨rfl, hb1⟩
    rw [HY.out]
    have HB1 := Lib.hid hb1
    clear hb1
    go_wp2_with (fail)
    refine (HND.out _ ?_).mono ?_
    · first | exact HB1.out | exact (HBOX.out _).trans (HB1.out.mono (HBOX.out _).size)
    rintro e w2 ⟨rfl, hb2⟩
    have HB2 := Lib.hid hb2
    clear hb2
    go_wp2_with (fail)
    refine ⟨rfl, .inr ⟨HY.out, rfl, Off.of_below ?_⟩⟩
    first | exact HB1.out.trans (HB2.out.mono HB1.out.size) | exact ((HBOX.out _).trans (HB1.out.mono (HBOX.out _).size)).trans (HB2.out.mono ((HBOX.out _).trans (HB1.out.mono (HBOX.out _).size)).size)
  · have hne : (tel ts i).k ≠ 6 := fun e => by rw [e, h6] at hy; cases hy
    have htk' := fun W (hb : Below w.heap.size w W) => htk W hb (h.more hne)
    have hfin : ∀ (W w1 W' : World) (e : Ending), Below w.heap.size w W → Off P W w1 → PAt w1 P g n c (i + 1) → Below w.heap.size w1 W' → e = .returned (tokV (tel ts i)) → OneEnd P g n c i ts ks w e W' := fun W w1 W' e hb ho hp hb2 he =>
      .inl ⟨hy, he, ((Off.of_below hb).trans ho).then hb2, (h.next ((Off.of_below hb).trans ho) hp hne).keep hb2 h.old.1 h.old.2⟩
    obtain ⟨hPo, hgo⟩ := h.old
    have HIS := Lib.hid his; have HTK := Lib.hid htk'; have HBOX := Lib.hid hbox; have HY := Lib.hid hy; have HFIN := Lib.hid hfin; have HOLD := Lib.hid (And.intro hPo hgo)
    unfold tokV at HTK HFIN
    clear his hnd hbox h htk htk' hp hs hm hfin hne hPo hgo
    go_enter Tryz.func45, Tryz.ntmps45
    go_wp2_with (fail)
    refine (HIS.out _ (HBOX.out _)).mono ?_
    rintro e w1 ⟨rfl, hb1⟩
    rw [HY.out]
    obtain ⟨h1, h2⟩ := one_box hb1
    have HB1 := Lib.hid h2; have H1 := Lib.hid h1
    clear hb1 h1 h2
    go_wp2_with (fail)
    refine (need_ok _ _).mono ?_
    rintro e w2 ⟨rfl, rfl⟩
    go_wp2_with (fail)
    refine (HTK.out w1 HB1.out).mono ?_
    rintro e w2 ⟨rfl, ho, hp⟩
    have r := (ho.block w.heap.size (lt_of_block H1.out) (by have := HOLD.out.1; omega)).trans H1.out
    have rl := lt_of_block r
    obtain ⟨⟨r0, r1, r2⟩, f0, f1, f2⟩ := cells3 r
    have HO := Lib.hid ho; have HP := Lib.hid hp
    clear ho hp r
    go_wp2_with (fail)
    refine bodyPost_ret (v := .agg #[.int .u8 (tel ts i).k, .string (tel ts i).s, .int .i64 (tel ts i).a]) (by simp [results, Tryz.results45, go_sem, r0, r1, r2]) rfl (HFIN.out w1 w2 _ _ HB1.out HO.out HP.out (Below.set3 w _ _ (Nat.le_refl _) _ _ _) rfl)

theorem bytes_alloc (w : World) (t : TypeId) (ks : List Int) : BytesAt (w.alloc (.cells (ks.map (Value.int .u8)).toArray t)) (some ⟨w.heap.size, 0, none⟩) ks := by
  refine .inr ⟨w.heap.size, 0, rfl, fun i hi => ?_⟩
  rw [Nat.zero_add, World.cell?_alloc_mark]
  rw [List.getElem?_toArray, List.getElem?_map, List.getD_eq_getElem?_getD, List.getElem?_eq_getElem hi]
  rfl
/-- A name's text, or an exception's: of a token of the kind kd. -/
def NameEnd (P g n c i : Nat) (ts : List Tok) (kd : Int) (w : World) (e : Ending) (w' : World) : Prop :=
  ((tel ts i).k = kd ∧ e = .returned (.string (tel ts i).s) ∧ Off P w w' ∧ PR w' P g n c (i + 1) ts) ∨ ((tel ts i).k ≠ kd ∧ e = thrown (tel ts i) ∧ Off P w w')
theorem one_name {P g n c i : Nat} {ts : List Tok} {kd : Int} {w W : World} {O : Obj} (hW : W = w.alloc O) :
    (∀ {e : Ending} {w' : World}, OneEnd P g n c i ts [kd] W e w' → ((tel ts i).k = kd ∧ e = .returned (tokV (tel ts i)) ∧ Off P w w' ∧ PR w' P g n c (i + 1) ts) ∨ ((tel ts i).k ≠ kd ∧ e = thrown (tel ts i) ∧ Off P w w')) := by
  rintro e w' (⟨h1, h2, h3, h4⟩ | ⟨h1, h2, h3⟩)
  · exact .inl ⟨by unfold isin at h1; simpa using h1, h2, (Off.alloc (Off.refl P w) O).trans (hW ▸ h3), h4⟩
  · exact .inr ⟨by unfold isin at h1; simpa using h1, h2, (Off.alloc (Off.refl P w) O).trans (hW ▸ h3)⟩
set_option maxRecDepth 10000 in
set_option maxHeartbeats 3200000 in
theorem name_walk (w : World) (P g n c i : Nat) (ts : List Tok) (h : PR w P g n c i ts) :
    Calls Tryz.prog 87 #[.pointer (some ⟨P, 0, none⟩)] w (NameEnd P g n c i ts 2 w) := by
  have hbox : ∀ O : Obj, Below w.heap.size w (w.alloc O) := fun O => (Below.refl _ _).alloc (Nat.le_refl _) O
  have hon := fun t => (one_walk (w.alloc (.cells #[.int .u8 2] t)) P g n c i ts (some ⟨w.heap.size, 0, none⟩) 1 1 [2] (h.below (hbox _)) rfl (by unfold maxLen; omega) (fun W hb => by
    have := bytes_alloc w t [2]
    rcases this with hh | ⟨b, o, e, hc⟩
    · cases hh
    · exact .inr ⟨b, o, e, fun j hj => (hb.cell (p := ⟨b, o + j, none⟩) (World.block_lt_of_cell? _ _ (hc j hj))).trans (hc j hj)⟩) (by decide)).mono (fun e w' he => one_name rfl he)
  have HON := Lib.hid hon
  unfold tokV thrown strayV at HON
  clear hon hbox h
  have hf := fieldTok1
  go_enter Tryz.func87, Tryz.ntmps87
  go_wp2_with (fail)
  refine (HON.out _).mono ?_
  rintro e w1 (⟨h1, rfl, h2, h3⟩ | ⟨h1, rfl, h2⟩)
  · have H := Lib.hid (And.intro h1 (And.intro h2 h3))
    clear h1 h2 h3
    go_wp2_with (fail)
    go_ret
    exact .inl ⟨H.out.1, rfl, H.out.2⟩
  · have H := Lib.hid (And.intro h1 h2)
    clear h1 h2
    go_wp2_with (fail)
    exact ⟨rfl, .inr ⟨H.out.1, rfl, H.out.2⟩⟩
set_option maxRecDepth 10000 in
set_option maxHeartbeats 3200000 in
theorem exn_walk (w : World) (P g n c i : Nat) (ts : List Tok) (h : PR w P g n c i ts) :
    Calls Tryz.prog 90 #[.pointer (some ⟨P, 0, none⟩)] w (NameEnd P g n c i ts 3 w) := by
  have hbox : ∀ O : Obj, Below w.heap.size w (w.alloc O) := fun O => (Below.refl _ _).alloc (Nat.le_refl _) O
  have hon := fun t => (one_walk (w.alloc (.cells #[.int .u8 3] t)) P g n c i ts (some ⟨w.heap.size, 0, none⟩) 1 1 [3] (h.below (hbox _)) rfl (by unfold maxLen; omega) (fun W hb => by
    have := bytes_alloc w t [3]
    rcases this with hh | ⟨b, o, e, hc⟩
    · cases hh
    · exact .inr ⟨b, o, e, fun j hj => (hb.cell (p := ⟨b, o + j, none⟩) (World.block_lt_of_cell? _ _ (hc j hj))).trans (hc j hj)⟩) (by decide)).mono (fun e w' he => one_name rfl he)
  have HON := Lib.hid hon
  unfold tokV thrown strayV at HON
  clear hon hbox h
  have hf := fieldTok1
  go_enter Tryz.func90, Tryz.ntmps90
  go_wp2_with (fail)
  refine (HON.out _).mono ?_
  rintro e w1 (⟨h1, rfl, h2, h3⟩ | ⟨h1, rfl, h2⟩)
  · have H := Lib.hid (And.intro h1 (And.intro h2 h3))
    clear h1 h2 h3
    go_wp2_with (fail)
    go_ret
    exact .inl ⟨H.out.1, rfl, H.out.2⟩
  · have H := Lib.hid (And.intro h1 h2)
    clear h1 h2
    go_wp2_with (fail)
    exact ⟨rfl, .inr ⟨H.out.1, rfl, H.out.2⟩⟩

/-- A head, by value. -/
def headV (k op a nn : Int) (nm ar ex : ByteArray) : Value := .agg #[.int .u8 k, .int .u8 op, .int .i64 a, .int .i64 nn, .string nm, .string ar, .string ex]
set_option maxRecDepth 10000 in
set_option maxHeartbeats 3200000 in
theorem head_walk (w : World) (P g n c i : Nat) (ts : List Tok) (kd : Int) (h : PR w P g n c i ts) (hk : (tel ts i).k ≠ 6) :
    Calls Tryz.prog 86 #[.pointer (some ⟨P, 0, none⟩), .int .u8 kd] w fun e w' => e = .returned (headV kd 0 (tel ts i).a 0 ⟨#[]⟩ ⟨#[]⟩ ⟨#[]⟩) ∧ Off P w w' ∧ PR w' P g n c (i + 1) ts := by
  have hbox : ∀ O : Obj, Below w.heap.size w (w.alloc O) := fun O => (Below.refl _ _).alloc (Nat.le_refl _) O
  have hpr := fun O => h.below (hbox O)
  have htk := fun O => (take_walk (w.alloc O) P g n c i ts (hpr O) (h.more hk)).mono fun e w' he => (show e = .returned (tokV (tel ts i)) ∧ Off P (w.alloc O) w' ∧ PR w' P g n c (i + 1) ts from ⟨he.1, he.2.1, (hpr O).next he.2.1 he.2.2 hk⟩)
  have hold := h.old
  have HTK := Lib.hid htk; have HOLD := Lib.hid hold
  unfold tokV at HTK
  unfold headV
  clear htk h hk hold hpr hbox
  have hf := fieldTok2
  go_enter Tryz.func86, Tryz.ntmps86
  go_wp2_with (fail)
  refine (HTK.out _).mono ?_
  rintro e w1 ⟨rfl, h1, h2⟩
  obtain ⟨h3, h4⟩ := box_off h1 HOLD.out.1
  have rl := lt_of_block h3
  obtain ⟨⟨r0, r1, r2, r3, r4, r5, r6⟩, f0, f1, f2, f3, f4, f5, f6⟩ := cells7' h3
  have H2 := Lib.hid h2; have H4 := Lib.hid h4
  clear h1 h2 h3 h4
  go_wp2_with (fail)
  refine bodyPost_ret (v := .agg #[.int .u8 kd, .int .u8 0, .int .i64 (tel ts i).a, .int .i64 0, .string ⟨#[]⟩, .string ⟨#[]⟩, .string ⟨#[]⟩]) (by simp [results, Tryz.results86, go_sem, r0, r1, r2, r3, r4, r5, r6]) rfl ⟨rfl, ?_, ?_⟩
  · exact H4.out.then (Below.set7 w _ _ (Nat.le_refl _) _ _ _ _ _ _ _)
  · exact H2.out.keep (Below.set7 w _ _ (Nat.le_refl _) _ _ _ _ _ _ _) HOLD.out.1 HOLD.out.2
end Parse
end Go.Proofs.YtadpjkehflokcaaGreatDoor
namespace Go.Proofs.YtadpjkehflokcaaGreatDoor
open Go.RowKit
set_option linter.unusedVariables false
namespace Parse
open Token (Tok tel ToksAt)
open Term (Tm Hd TmIs Kids ret_bool ret_i64 Reads veil Flat tcells)
open Words (str_no str_yes)
open Chars (isin BytesAt)

/-- A term, by value. -/
def tmV (h : Hd) (p : Option Addr) (l d : Nat) : Value := .agg #[.int .u8 h.k, .int .u8 h.op, .int .i64 h.pl, .int .i64 h.n, .string h.name, .string h.arg, .string h.exn, .slice p l d]
set_option maxRecDepth 10000 in
set_option maxHeartbeats 3200000 in
theorem node_walk (w : World) (k op a nn : Int) (nm ar ex : ByteArray) (p : Option Addr) (l d : Nat) :
    Calls Tryz.prog 88 #[headV k op a nn nm ar ex, .slice p l d] w fun e w' => e = .returned (.agg #[.int .u8 k, .int .u8 op, .int .i64 a, .int .i64 nn, .string nm, .string ar, .string ex, .slice p l d]) ∧ Below w.heap.size w w' := by
  unfold headV
  have hbox : ∀ O O' : Obj, Below w.heap.size w ((w.alloc O).alloc O') := fun O O' => ((Below.refl _ _).alloc (Nat.le_refl _) O).alloc (by simp) O'
  have hbox1 : ∀ O : Obj, Below w.heap.size w (w.alloc O) := fun O => ((Below.refl _ _).alloc (Nat.le_refl _) O)
  have HBOX := Lib.hid hbox; have HBOX1 := Lib.hid hbox1
  clear hbox hbox1
  go_enter Tryz.func88, Tryz.ntmps88
  go_wp2_with (fail)
  refine bodyPost_ret (v := .agg #[.int .u8 k, .int .u8 op, .int .i64 a, .int .i64 nn, .string nm, .string ar, .string ex, .slice p l d]) (by simp [results, Tryz.results88, go_sem]) rfl ⟨rfl, ?_⟩
  exact HBOX.out _ _

/-- A sign's head. -/
theorem signHead_walk (w : World) (x : ByteArray) (hx : x ∈ [wPut, wLess, wIs, wAdd, wSub, wMul]) :
    Calls Tryz.prog 134 #[.string x] w fun e w' => e = .returned (headV (opK x) (opO x) 0 0 ⟨#[]⟩ ⟨#[]⟩ ⟨#[]⟩) ∧ Below w.heap.size w w' := by
  have hbox1 : ∀ O : Obj, Below w.heap.size w (w.alloc O) := fun O => ((Below.refl _ _).alloc (Nat.le_refl _) O)
  have HBOX1 := Lib.hid hbox1
  clear hbox1
  unfold headV
  have k1 : opK wPut = 8 ∧ opO wPut = 0 ∧ opK wLess = 9 ∧ opO wLess = 4 ∧ opK wIs = 9 ∧ opO wIs = 5 ∧ opK wAdd = 9 ∧ opO wAdd = 1 ∧ opK wSub = 9 ∧ opO wSub = 2 ∧ opK wMul = 9 ∧ opO wMul = 3 := by decide +kernel
  obtain ⟨k1, k2, k3, k4, k5, k6, k7, k8, k9, k10, k11, k12⟩ := k1
  simp only [List.mem_cons, List.not_mem_nil, or_false] at hx
  rcases hx with rfl | rfl | rfl | rfl | rfl | rfl
  · rw [k1, k2]
    clear k1 k2 k3 k4 k5 k6 k7 k8 k9 k10 k11 k12
    have e1 : (wPut.toList == [43]) = false := by rw [tlPut]; decide
    have e2 : (wPut.toList == [45]) = false := by rw [tlPut]; decide
    have e3 : (wPut.toList == [42]) = false := by rw [tlPut]; decide
    have e4 : (wPut.toList == [60]) = false := by rw [tlPut]; decide
    have e5 : (wPut.toList == [61]) = false := by rw [tlPut]; decide
    go_enter Tryz.func134, Tryz.ntmps134
    go_wp2_with (fail)
    refine bodyPost_ret (v := .agg #[.int .u8 8, .int .u8 0, .int .i64 0, .int .i64 0, .string ⟨#[]⟩, .string ⟨#[]⟩, .string ⟨#[]⟩]) (by simp [results, Tryz.results134, go_sem]) rfl ⟨rfl, HBOX1.out _⟩
  · rw [k3, k4]
    clear k1 k2 k3 k4 k5 k6 k7 k8 k9 k10 k11 k12
    have e1 : (wLess.toList == [43]) = false := by rw [tlLess]; decide
    have e2 : (wLess.toList == [45]) = false := by rw [tlLess]; decide
    have e3 : (wLess.toList == [42]) = false := by rw [tlLess]; decide
    have e4 : (wLess.toList == [60]) = true := by rw [tlLess]; decide
    go_enter Tryz.func134, Tryz.ntmps134
    go_wp2_with (fail)
    refine bodyPost_ret (v := .agg #[.int .u8 9, .int .u8 4, .int .i64 0, .int .i64 0, .string ⟨#[]⟩, .string ⟨#[]⟩, .string ⟨#[]⟩]) (by simp [results, Tryz.results134, go_sem]) rfl ⟨rfl, HBOX1.out _⟩
  · rw [k5, k6]
    clear k1 k2 k3 k4 k5 k6 k7 k8 k9 k10 k11 k12
    have e1 : (wIs.toList == [43]) = false := by rw [tlIs]; decide
    have e2 : (wIs.toList == [45]) = false := by rw [tlIs]; decide
    have e3 : (wIs.toList == [42]) = false := by rw [tlIs]; decide
    have e4 : (wIs.toList == [60]) = false := by rw [tlIs]; decide
    have e5 : (wIs.toList == [61]) = true := by rw [tlIs]; decide
    go_enter Tryz.func134, Tryz.ntmps134
    go_wp2_with (fail)
    refine bodyPost_ret (v := .agg #[.int .u8 9, .int .u8 5, .int .i64 0, .int .i64 0, .string ⟨#[]⟩, .string ⟨#[]⟩, .string ⟨#[]⟩]) (by simp [results, Tryz.results134, go_sem]) rfl ⟨rfl, HBOX1.out _⟩
  · rw [k7, k8]
    clear k1 k2 k3 k4 k5 k6 k7 k8 k9 k10 k11 k12
    have e1 : (wAdd.toList == [43]) = true := by rw [tlAdd]; decide
    go_enter Tryz.func134, Tryz.ntmps134
    go_wp2_with (fail)
    refine bodyPost_ret (v := .agg #[.int .u8 9, .int .u8 1, .int .i64 0, .int .i64 0, .string ⟨#[]⟩, .string ⟨#[]⟩, .string ⟨#[]⟩]) (by simp [results, Tryz.results134, go_sem]) rfl ⟨rfl, HBOX1.out _⟩
  · rw [k9, k10]
    clear k1 k2 k3 k4 k5 k6 k7 k8 k9 k10 k11 k12
    have e1 : (wSub.toList == [43]) = false := by rw [tlSub]; decide
    have e2 : (wSub.toList == [45]) = true := by rw [tlSub]; decide
    go_enter Tryz.func134, Tryz.ntmps134
    go_wp2_with (fail)
    refine bodyPost_ret (v := .agg #[.int .u8 9, .int .u8 2, .int .i64 0, .int .i64 0, .string ⟨#[]⟩, .string ⟨#[]⟩, .string ⟨#[]⟩]) (by simp [results, Tryz.results134, go_sem]) rfl ⟨rfl, HBOX1.out _⟩
  · rw [k11, k12]
    clear k1 k2 k3 k4 k5 k6 k7 k8 k9 k10 k11 k12
    have e1 : (wMul.toList == [43]) = false := by rw [tlMul]; decide
    have e2 : (wMul.toList == [45]) = false := by rw [tlMul]; decide
    have e3 : (wMul.toList == [42]) = true := by rw [tlMul]; decide
    go_enter Tryz.func134, Tryz.ntmps134
    go_wp2_with (fail)
    refine bodyPost_ret (v := .agg #[.int .u8 9, .int .u8 3, .int .i64 0, .int .i64 0, .string ⟨#[]⟩, .string ⟨#[]⟩, .string ⟨#[]⟩]) (by simp [results, Tryz.results134, go_sem]) rfl ⟨rfl, HBOX1.out _⟩

/-- What was laid from block B on. -/
def fresh (B : Nat) (w : World) : World := veil (fun i => decide (B ≤ i)) w
theorem fresh_step {B B1 : Nat} {w W : World} (hB : B ≤ B1) (h : ∀ k, B1 ≤ k → k < w.heap.size → W.heap[k]? = w.heap[k]?) : Reads (fresh B1 w) (fresh B W) :=
  Term.veil_to fun b hb hp => by
    have hp := of_decide_eq_true hp
    exact ⟨decide_eq_true (by omega), h b hp hb⟩
theorem fresh_off {B B1 P : Nat} {w W : World} (hB : B ≤ B1) (hP : P < B1) (ho : Off P w W) : Reads (fresh B1 w) (fresh B W) := fresh_step hB fun k h1 h2 => ho.block k h2 (by omega)
/-- Behind the writing of a box that was laid ahead of the term. -/
theorem fresh_box {B B1 N : Nat} {w W : World} (hB : B ≤ B1) (hN : N < B1) (h : ∀ k, k ≠ N → k < w.heap.size → W.heap[k]? = w.heap[k]?) : Reads (fresh B1 w) (fresh B W) := fresh_step hB fun k h1 h2 => h k (by omega) h2
theorem set8_other (W : World) (N : Nat) (a b c d e f g h : Value) (k : Nat) (hk : k ≠ N) : ((((((((W.setCell ⟨N, 0, none⟩ a).setCell ⟨N, 1, none⟩ b).setCell ⟨N, 2, none⟩ c).setCell ⟨N, 3, none⟩ d).setCell ⟨N, 4, none⟩ e).setCell ⟨N, 5, none⟩ f).setCell ⟨N, 6, none⟩ g).setCell ⟨N, 7, none⟩ h).heap[k]? = W.heap[k]? := by
  rw [Below.heap_setCell _ _ _ _ hk, Below.heap_setCell _ _ _ _ hk, Below.heap_setCell _ _ _ _ hk, Below.heap_setCell _ _ _ _ hk, Below.heap_setCell _ _ _ _ hk, Below.heap_setCell _ _ _ _ hk, Below.heap_setCell _ _ _ _ hk, Below.heap_setCell _ _ _ _ hk]
theorem set8_size (W : World) (N : Nat) (a b c d e f g h : Value) : ((((((((W.setCell ⟨N, 0, none⟩ a).setCell ⟨N, 1, none⟩ b).setCell ⟨N, 2, none⟩ c).setCell ⟨N, 3, none⟩ d).setCell ⟨N, 4, none⟩ e).setCell ⟨N, 5, none⟩ f).setCell ⟨N, 6, none⟩ g).setCell ⟨N, 7, none⟩ h).heap.size = W.heap.size := by
  simp [World.setCell]
/-- A row of terms in a block just laid, and the term that has them. -/
theorem tm_row {W : World} {V : Nat → Bool} {b : Nat} {xs : List Value} {ts : List Tm} {ty : TypeId} {h : Hd} (hb : V b = true) (hc : W.heap[b]? = some (.cells xs.toArray ty (0, 0))) (hf : Flat (veil V W) xs ts) (hd : Term.HdOk h) (hl : ts.length ≤ maxLen) :
    TmIs (veil V W) h (some ⟨b, 0, none⟩) ts.length ts.length (.node h ts) := by
  refine ⟨rfl, rfl, hd, ⟨Nat.le_refl _, hl⟩, Term.kids_of_flat (xs := xs) (fun j u hu => ?_) hf⟩
  rw [World.cell?_of_block (w := W) (Term.veil_at hb)]
  simp [World.cell?, hc, hu]
/-- What is seen stays, where only newer blocks are written. -/
theorem veil_below {V : Nat → Bool} {w W : World} (hb : Below w.heap.size w W) : Reads (veil V w) (veil V W) := Term.veil_to fun k hk hp => ⟨hp, hb.block k hk⟩
theorem small0 : (-9223372036854775808 : Int) ≤ 0 ∧ (0 : Int) ≤ 9223372036854775807 := by omega
theorem hd_join {k op pl : Int} (hk : 0 ≤ k ∧ k ≤ 255) (ho : 0 ≤ op ∧ op ≤ 255) (hp : -9223372036854775808 ≤ pl ∧ pl ≤ 9223372036854775807) : Term.HdOk ⟨k, op, pl, 0, ⟨#[]⟩, ⟨#[]⟩, ⟨#[]⟩⟩ :=
  ⟨hk, ho, hp, small0, by unfold maxLen; show (0 : Nat) ≤ _; omega, by unfold maxLen; show (0 : Nat) ≤ _; omega, by unfold maxLen; show (0 : Nat) ≤ _; omega⟩
/-- How joined ends. -/
def JoinEnd (V : Nat → Bool) (k op : Int) (t u : Tm) (w : World) (e : Ending) (w' : World) : Prop :=
  ∃ q, e = .returned (.agg #[.int .u8 k, .int .u8 op, .int .i64 t.h.pl, .int .i64 0, .string ⟨#[]⟩, .string ⟨#[]⟩, .string ⟨#[]⟩, .slice q 2 2]) ∧
    TmIs (veil V w') ⟨k, op, t.h.pl, 0, ⟨#[]⟩, ⟨#[]⟩, ⟨#[]⟩⟩ q 2 2 (.node ⟨k, op, t.h.pl, 0, ⟨#[]⟩, ⟨#[]⟩, ⟨#[]⟩⟩ [t, u]) ∧ Below w.heap.size w w'
theorem join_fin {V : Nat → Bool} {k op k1 op1 a1 n1 k2 op2 a2 n2 : Int} {nm1 ar1 ex1 nm2 ar2 ex2 : ByteArray} {p1 p2 : Option Addr} {l1 d1 l2 d2 : Nat} {t u : Tm} {w W : World} {N : Nat} {ty : TypeId} (hB : ∀ b, w.heap.size ≤ b → V b = true)
    (hT : TmIs (veil V w) ⟨k1, op1, a1, n1, nm1, ar1, ex1⟩ p1 l1 d1 t) (hU : TmIs (veil V w) ⟨k2, op2, a2, n2, nm2, ar2, ex2⟩ p2 l2 d2 u) (hk : 0 ≤ k ∧ k ≤ 255) (ho : 0 ≤ op ∧ op ≤ 255) (hN : w.heap.size ≤ N)
    (hb : Below w.heap.size w W) (hW : W.heap[N]? = some (.cells #[.int .u8 k1, .int .u8 op1, .int .i64 a1, .int .i64 n1, .string nm1, .string ar1, .string ex1, .slice p1 l1 d1, .int .u8 k2, .int .u8 op2, .int .i64 a2, .int .i64 n2, .string nm2, .string ar2, .string ex2, .slice p2 l2 d2] ty (0, 0))) :
    JoinEnd V k op t u w (.returned (.agg #[.int .u8 k, .int .u8 op, .int .i64 a1, .int .i64 0, .string ⟨#[]⟩, .string ⟨#[]⟩, .string ⟨#[]⟩, .slice (some ⟨N, 0, none⟩) 2 2])) W := by
  have hpl : t.h.pl = a1 := by rw [hT.head]
  refine ⟨_, by rw [hpl], ?_, hb⟩
  rw [hpl]
  exact tm_row (xs := tcells ⟨k1, op1, a1, n1, nm1, ar1, ex1⟩ p1 l1 d1 ++ tcells ⟨k2, op2, a2, n2, nm2, ar2, ex2⟩ p2 l2 d2) (ts := [t, u]) (hB _ hN) hW (((Flat.one hT).append (Flat.one hU)).reads (veil_below hb)) (hd_join hk ho hT.ok.pl) (by unfold maxLen; show (2 : Nat) ≤ _; omega)
theorem five (w : World) (A B C D E : Obj) {W : World} (hb : Below (((((w.alloc A).alloc B).alloc C).alloc D).alloc E).heap.size (((((w.alloc A).alloc B).alloc C).alloc D).alloc E) W) : W.heap[w.heap.size + 3]? = some D ∧ W.heap[w.heap.size + 4]? = some E ∧ Below w.heap.size w W := by
  have s1 : (w.alloc A).heap.size = w.heap.size + 1 := by simp
  have s2 : ((w.alloc A).alloc B).heap.size = w.heap.size + 2 := by simp
  have s3 : (((w.alloc A).alloc B).alloc C).heap.size = w.heap.size + 3 := by simp
  have s4 : ((((w.alloc A).alloc B).alloc C).alloc D).heap.size = w.heap.size + 4 := by simp
  have s5 : (((((w.alloc A).alloc B).alloc C).alloc D).alloc E).heap.size = w.heap.size + 5 := by simp
  have h0 : Below w.heap.size w (((((w.alloc A).alloc B).alloc C).alloc D).alloc E) := (((((Below.refl _ _).alloc (Nat.le_refl _) _).alloc (by omega) _).alloc (by omega) _).alloc (by omega) _).alloc (by omega) _
  refine ⟨?_, ?_, h0.trans (hb.mono h0.size)⟩
  · rw [hb.block _ (by omega), Below.heap_alloc _ _ _ (by omega), ← s3]; exact heap_alloc_new _ D
  · rw [hb.block _ (by omega), ← s4]; exact heap_alloc_new _ E
set_option maxRecDepth 10000 in
set_option maxHeartbeats 6400000 in
theorem joined_walk (w : World) (V : Nat → Bool) (t u : Tm) (k op a k1 op1 a1 n1 k2 op2 a2 n2 : Int) (nm1 ar1 ex1 nm2 ar2 ex2 : ByteArray) (p1 p2 : Option Addr) (l1 d1 l2 d2 : Nat) (hB : ∀ b, w.heap.size ≤ b → V b = true)
    (hT : TmIs (veil V w) ⟨k1, op1, a1, n1, nm1, ar1, ex1⟩ p1 l1 d1 t) (hU : TmIs (veil V w) ⟨k2, op2, a2, n2, nm2, ar2, ex2⟩ p2 l2 d2 u) (hk : 0 ≤ k ∧ k ≤ 255) (ho : 0 ≤ op ∧ op ≤ 255) :
    Calls Tryz.prog 135 #[headV k op a 0 ⟨#[]⟩ ⟨#[]⟩ ⟨#[]⟩, .agg #[.int .u8 k1, .int .u8 op1, .int .i64 a1, .int .i64 n1, .string nm1, .string ar1, .string ex1, .slice p1 l1 d1], .agg #[.int .u8 k2, .int .u8 op2, .int .i64 a2, .int .i64 n2, .string nm2, .string ar2, .string ex2, .slice p2 l2 d2]] w (JoinEnd V k op t u w) := by
  have hfin := fun (W : World) ty hb hW => join_fin (W := W) (N := w.heap.size + 4) (ty := ty) hB hT hU hk ho (by omega) hb hW
  have hn := fun W => node_walk W k op a1 0 ⟨#[]⟩ ⟨#[]⟩ ⟨#[]⟩ (some ⟨w.heap.size + 4, 0, none⟩) 2 2
  have HN := Lib.hid hn; have HFIN := Lib.hid hfin
  unfold headV at HN ⊢
  clear hT hU hfin hn hB
  go_enter Tryz.func135, Tryz.ntmps135
  go_wp2_with (fail)
  refine (HN.out _).mono ?_
  rintro e w1 ⟨rfl, hb1⟩
  obtain ⟨h3, h4, h5⟩ := five w _ _ _ _ _ hb1
  have rl := lt_of_block h3
  obtain ⟨⟨r0, r1, r2, r3, r4, r5, r6, r7⟩, f0, f1, f2, f3, f4, f5, f6, f7⟩ := cells8' (N := w.heap.size + 1 + 1 + 1) h3
  have HB := Lib.hid h5; have H4 := Lib.hid h4
  clear hb1 h3 h4 h5
  go_wp2_with (fail)
  refine bodyPost_ret (v := .agg #[.int .u8 k, .int .u8 op, .int .i64 a1, .int .i64 0, .string ⟨#[]⟩, .string ⟨#[]⟩, .string ⟨#[]⟩, .slice (some ⟨w.heap.size + 4, 0, none⟩) 2 2]) (by simp [results, Tryz.results135, go_sem, r0, r1, r2, r3, r4, r5, r6, r7]) rfl (HFIN.out _ 29 (HB.out.trans (Below.set8 w _ _ (by omega) _ _ _ _ _ _ _ _)) ?_)
  rw [Below.heap_setCell _ _ _ _ (by show _ ≠ w.heap.size + 1 + 1 + 1; omega), Below.heap_setCell _ _ _ _ (by show _ ≠ w.heap.size + 1 + 1 + 1; omega), Below.heap_setCell _ _ _ _ (by show _ ≠ w.heap.size + 1 + 1 + 1; omega), Below.heap_setCell _ _ _ _ (by show _ ≠ w.heap.size + 1 + 1 + 1; omega), Below.heap_setCell _ _ _ _ (by show _ ≠ w.heap.size + 1 + 1 + 1; omega), Below.heap_setCell _ _ _ _ (by show _ ≠ w.heap.size + 1 + 1 + 1; omega), Below.heap_setCell _ _ _ _ (by show _ ≠ w.heap.size + 1 + 1 + 1; omega), Below.heap_setCell _ _ _ _ (by show _ ≠ w.heap.size + 1 + 1 + 1; omega)]
  exact H4.out

/-- How a part ends: at a place of the row, with a term laid from block B on; or a token is thrown. -/
def PartB (B P g n c : Nat) (ts : List Tok) (r : St × Tm) (w : World) (e : Ending) (w' : World) : Prop :=
  (r.1.bad = false ∧ (∃ h p l d, e = .returned (.agg #[.int .u8 h.k, .int .u8 h.op, .int .i64 h.pl, .int .i64 h.n, .string h.name, .string h.arg, .string h.exn, .slice p l d]) ∧ TmIs (fresh B w') h p l d r.2) ∧ Off P w w' ∧ PR w' P g n c r.1.i ts) ∨
  (r.1.bad = true ∧ e = thrown (tel ts r.1.i) ∧ Off P w w')
def PartEnd (P g n c : Nat) (ts : List Tok) (r : St × Tm) (w : World) (e : Ending) (w' : World) : Prop := PartB w.heap.size P g n c ts r w e w'
/-- A leaf, as the document says it. -/
def leafF (ts : List Tok) (i : Nat) : St × Tm :=
  if (tel ts i).k = 1 then (⟨i + 1, false⟩, .node ⟨1, 0, plA ts i, Words.numV (tel ts i).s.data.toList, ⟨#[]⟩, ⟨#[]⟩, ⟨#[]⟩⟩ []) else if (tel ts i).k = 2 then (⟨i + 1, false⟩, .node ⟨2, 0, plA ts i, 0, (tel ts i).s, ⟨#[]⟩, ⟨#[]⟩⟩ []) else (⟨i, true⟩, zeroT)
theorem below8 {w w1 w2 : World} (h : Below w.heap.size w w1) (k : Below w1.heap.size w1 w2) : Below w.heap.size w w2 := h.trans (k.mono h.size)
end Parse
end Go.Proofs.YtadpjkehflokcaaGreatDoor
namespace Go.Proofs.YtadpjkehflokcaaGreatDoor
open Go.RowKit
set_option linter.unusedVariables false
namespace Parse
open Token (Tok tel ToksAt)
open Term (Tm Hd TmIs Kids ret_bool ret_i64 Reads veil Flat tcells)
open Words (str_no str_yes)
open Chars (isin BytesAt)

theorem var_off {w W : World} {P g : Nat} {nm : String} {cs : Array Value} (hg : Tryz.prog.globalNamed nm = some g) (h : w.var? Tryz.prog nm = some cs) (ho : Off P w W) (hne : g ≠ P) : W.var? Tryz.prog nm = some cs := by
  unfold World.var? at h ⊢
  rw [hg] at h ⊢
  simp only [Option.bind_some] at h ⊢
  have hlt : g < w.heap.size := by
    rcases Nat.lt_or_ge g w.heap.size with h1 | h1
    · exact h1
    · rw [Array.getElem?_eq_none h1] at h; simp at h
  rw [ho.block g hlt hne]
  exact h
/-- The tables of numbers, which the parser's variable isn't. -/
def Lay (w : World) (P : Nat) : Prop := Words.NumLaid w ∧ 2 ≠ P ∧ 6 ≠ P
theorem Lay.off {w W : World} {P : Nat} (h : Lay w P) (ho : Off P w W) : Lay W P := by
  obtain ⟨⟨h1, tp, p, h2⟩, h3, h4⟩ := h
  exact ⟨⟨var_off Words.gPow h1 ho h3, tp, p, var_off Words.gRange h2 ho h4⟩, h3, h4⟩

theorem Lay.below {w W : World} {P : Nat} (h : Lay w P) (hb : Below w.heap.size w W) : Lay W P := h.off (Off.of_below hb)
theorem box_off2 {P : Nat} {w W : World} {O O' : Obj} (h : Off P ((w.alloc O).alloc O') W) (hP : P < w.heap.size) : W.heap[w.heap.size]? = some O ∧ Off P w W := by
  have s1 : (w.alloc O).heap.size = w.heap.size + 1 := by simp
  have h1 : Off P (w.alloc O) W := ((Off.refl P _).alloc O').trans h
  exact box_off h1 hP
theorem numV_small (l : List UInt8) : -9223372036854775808 ≤ Words.numV l ∧ Words.numV l ≤ 9223372036854775807 := by
  unfold Words.numV
  split
  · rename_i h
    unfold Words.numB at h
    simp only [Bool.and_eq_true, decide_eq_true_eq] at h
    have := h.2
    omega
  · omega
theorem tm_leaf {w : World} {k pl nn : Int} {nm : ByteArray} (hk : 0 ≤ k ∧ k ≤ 255) (hp : -9223372036854775808 ≤ pl ∧ pl ≤ 9223372036854775807) (hn : -9223372036854775808 ≤ nn ∧ nn ≤ 9223372036854775807) (hm : nm.size ≤ maxLen) :
    TmIs w ⟨k, 0, pl, nn, nm, ⟨#[]⟩, ⟨#[]⟩⟩ none 0 0 (.node ⟨k, 0, pl, nn, nm, ⟨#[]⟩, ⟨#[]⟩⟩ []) :=
  ⟨rfl, rfl, ⟨hk, ⟨Int.le_refl _, by show (0 : Int) ≤ 255; omega⟩, hp, hn, hm, by unfold maxLen; show (0 : Nat) ≤ _; omega, by unfold maxLen; show (0 : Nat) ≤ _; omega⟩, ⟨Nat.le_refl _, by unfold maxLen; omega⟩, .nokids none⟩
theorem PR.pl {w : World} {P g n c i : Nat} {ts : List Tok} (h : PR w P g n c i ts) : -9223372036854775808 ≤ plA ts i ∧ plA ts i ≤ 9223372036854775807 := by
  have := h.row.places i h.lt
  unfold plA
  omega
theorem leaf_fin {P g n c i : Nat} {ts : List Tok} {w w1 W : World} {k nn : Int} {nm : ByteArray} {b : St × Tm} (h : PR w P g n c i ts) (hb : b = (⟨i + 1, false⟩, .node ⟨k, 0, plA ts i, nn, nm, ⟨#[]⟩, ⟨#[]⟩⟩ [])) (hk : 0 ≤ k ∧ k ≤ 255) (hn : -9223372036854775808 ≤ nn ∧ nn ≤ 9223372036854775807) (hm : nm.size ≤ maxLen)
    (ho : Off P w w1) (hp : PR w1 P g n c (i + 1) ts) (hB : Below w.heap.size w1 W) :
    PartEnd P g n c ts b w (.returned (.agg #[.int .u8 k, .int .u8 0, .int .i64 (tel ts i).a, .int .i64 nn, .string nm, .string ⟨#[]⟩, .string ⟨#[]⟩, .slice none 0 0])) W := by
  subst hb
  exact .inl ⟨rfl, ⟨⟨k, 0, plA ts i, nn, nm, ⟨#[]⟩, ⟨#[]⟩⟩, none, 0, 0, rfl, tm_leaf hk h.pl hn hm⟩, ho.then hB, hp.keep hB h.old.1 h.old.2⟩
set_option maxRecDepth 10000 in
set_option maxHeartbeats 6400000 in
theorem leaf_walk (w : World) (P g n c i : Nat) (ts : List Tok) (h : PR w P g n c i ts) (hL : Lay w P) :
    Calls Tryz.prog 169 #[.pointer (some ⟨P, 0, none⟩)] w (PartEnd P g n c ts (leafF ts i) w) := by
  have hbox : ∀ O O' : Obj, Below w.heap.size w ((w.alloc O).alloc O') := fun O O' => ((Below.refl _ _).alloc (Nat.le_refl _) O).alloc (by simp) O'
  have hon := fun t O => (one_walk ((w.alloc O).alloc (.cells #[.int .u8 1, .int .u8 2] t)) P g n c i ts (some ⟨w.heap.size + 1, 0, none⟩) 2 2 [1, 2] (h.below (hbox O _)) rfl (by unfold maxLen; omega) (fun W hb => by
    have hx := bytes_alloc (w.alloc O) t [1, 2]
    rw [show (w.alloc O).heap.size = w.heap.size + 1 from by simp] at hx
    rcases hx with hh | ⟨b, o, e, hc⟩
    · cases hh
    · exact .inr ⟨b, o, e, fun j hj => (hb.cell (p := ⟨b, o + j, none⟩) (World.block_lt_of_cell? _ _ (hc j hj))).trans (hc j hj)⟩) (by decide))
  have HON := Lib.hid hon
  unfold OneEnd tokV thrown strayV at HON
  have hf := fieldTok0
  have hold := h.old
  have htx := h.row.texts i h.lt
  have hleaf : leafF ts i = if (tel ts i).k = 1 then (⟨i + 1, false⟩, .node ⟨1, 0, plA ts i, Words.numV (tel ts i).s.data.toList, ⟨#[]⟩, ⟨#[]⟩, ⟨#[]⟩⟩ []) else if (tel ts i).k = 2 then (⟨i + 1, false⟩, .node ⟨2, 0, plA ts i, 0, (tel ts i).s, ⟨#[]⟩, ⟨#[]⟩⟩ []) else (⟨i, true⟩, zeroT) := rfl
  generalize leafF ts i = lf at *
  have HP := Lib.hid h; have HL := Lib.hid hL; have HOLD := Lib.hid hold; have HTX := Lib.hid htx; have HLF := Lib.hid hleaf
  clear hon h hL hbox hold htx hleaf
  go_enter Tryz.func169, Tryz.ntmps169
  go_wp2_with (fail)
  refine (HON.out _ _).mono ?_
  rintro e w1 (⟨hk, rfl, ho, hp⟩ | ⟨hk, rfl, ho⟩)
  · obtain ⟨h3, h4⟩ := box_off2 ho HOLD.out.1
    have HO := Lib.hid h4; have HPR := Lib.hid hp
    have rl := lt_of_block h3
    by_cases h1 : (tel ts i).k = 1
    · have n1 : ((tel ts i).k == 2) = false := by rw [h1]; rfl
      have hx := HLF.out
      rw [if_pos h1] at hx
      have hnum := fun W (hb : Below w1.heap.size w1 W) => Words.number_walk (tel ts i).s W (by have := HTX.out; omega) ((HL.out.off HO.out).below hb).1
      have hbx : ∀ O : Obj, Below w1.heap.size w1 (w1.alloc O) := fun O => (Below.refl _ _).alloc (Nat.le_refl _) O
      have H3 := Lib.hid h3; have HX := Lib.hid hx; have HNUM := Lib.hid hnum; have HBX := Lib.hid hbx
      unfold Words.NumEnd at HNUM
      clear ho hp hk h1 h3 h4 hx hnum hbx
      go_wp2_with (fail)
      refine (HNUM.out _ (HBX.out _)).mono ?_
      rintro e w2 ⟨rfl, hb2⟩
      obtain ⟨t3, hb3⟩ := one_box hb2
      obtain ⟨⟨t0, t1, t2⟩, g0, g1, g2⟩ := cells3 t3
      have HB3 := Lib.hid hb3
      have tl := lt_of_block t3
      clear hb2 t3 hb3
      go_wp2_with (fail)
      refine (node_walk w2 1 0 (tel ts i).a (Words.numV (tel ts i).s.data.toList) ⟨#[]⟩ ⟨#[]⟩ ⟨#[]⟩ none 0 0).mono ?_
      rintro e w3 ⟨rfl, hb4⟩
      have hr : w3.heap[w.heap.size]? = _ := ((HB3.out.trans (hb4.mono HB3.out.size)).block _ rl).trans H3.out
      obtain ⟨⟨r0, r1, r2, r3, r4, r5, r6, r7⟩, f0, f1, f2, f3, f4, f5, f6, f7⟩ := cells8' hr
      have rl3 := lt_of_block hr
      have HB4 := Lib.hid (HB3.out.trans (hb4.mono HB3.out.size))
      clear hb4 hr
      go_wp2_with (fail)
      refine bodyPost_ret (v := .agg #[.int .u8 1, .int .u8 0, .int .i64 (tel ts i).a, .int .i64 (Words.numV (tel ts i).s.data.toList), .string ⟨#[]⟩, .string ⟨#[]⟩, .string ⟨#[]⟩, .slice none 0 0]) (by simp [results, Tryz.results169, go_sem, r0, r1, r2, r3, r4, r5, r6, r7]) rfl (leaf_fin HP.out HX.out (by omega) (numV_small _) (by unfold maxLen; show (0 : Nat) ≤ _; omega) HO.out HPR.out ((HB4.out.mono HO.out.size).trans (Below.set8 w _ _ (Nat.le_refl _) _ _ _ _ _ _ _ _)))
    · have h2 : (tel ts i).k = 2 := by unfold isin at hk; simpa [h1] using hk
      have n1 : ((tel ts i).k == 2) = true := by rw [h2]; rfl
      have hx := HLF.out
      rw [if_neg h1, if_pos h2] at hx
      have hbx : ∀ O : Obj, Below w1.heap.size w1 (w1.alloc O) := fun O => (Below.refl _ _).alloc (Nat.le_refl _) O
      have H3 := Lib.hid h3; have HX := Lib.hid hx; have HBX := Lib.hid hbx
      clear ho hp hk h1 h2 h3 h4 hx hbx
      go_wp2_with (fail)
      refine (node_walk _ 2 0 (tel ts i).a 0 (tel ts i).s ⟨#[]⟩ ⟨#[]⟩ none 0 0).mono ?_
      rintro e w3 ⟨rfl, hb4⟩
      obtain ⟨_, hb5⟩ := one_box hb4
      have hr : w3.heap[w.heap.size]? = _ := (hb5.block _ rl).trans H3.out
      obtain ⟨⟨r0, r1, r2, r3, r4, r5, r6, r7⟩, f0, f1, f2, f3, f4, f5, f6, f7⟩ := cells8' hr
      have rl3 := lt_of_block hr
      have HB4 := Lib.hid hb5
      clear hb4 hr hb5
      go_wp2_with (fail)
      refine bodyPost_ret (v := .agg #[.int .u8 2, .int .u8 0, .int .i64 (tel ts i).a, .int .i64 0, .string (tel ts i).s, .string ⟨#[]⟩, .string ⟨#[]⟩, .slice none 0 0]) (by simp [results, Tryz.results169, go_sem, r0, r1, r2, r3, r4, r5, r6, r7]) rfl (leaf_fin HP.out HX.out (by omega) small0 (by have := HTX.out; unfold maxLen; omega) HO.out HPR.out ((HB4.out.mono HO.out.size).trans (Below.set8 w _ _ (Nat.le_refl _) _ _ _ _ _ _ _ _)))
  · have h1 : (tel ts i).k ≠ 1 := fun e => by rw [e] at hk; revert hk; decide
    have h2 : (tel ts i).k ≠ 2 := fun e => by rw [e] at hk; revert hk; decide
    have hx := HLF.out
    rw [if_neg h1, if_neg h2] at hx
    obtain ⟨h3, h4⟩ := box_off2 ho HOLD.out.1
    have HO := Lib.hid h4; have HX := Lib.hid hx
    clear h1 h2 hx h3 h4 ho
    go_wp2_with (fail)
    exact ⟨rfl, .inr ⟨by rw [HX.out], by rw [HX.out]; rfl, HO.out⟩⟩
end Parse
end Go.Proofs.YtadpjkehflokcaaGreatDoor
namespace Go.Proofs.YtadpjkehflokcaaGreatDoor
open Go.RowKit
set_option linter.unusedVariables false
set_option linter.unusedSimpArgs false
namespace Parse
open Token (Tok tel ToksAt)
open Term (Tm Hd TmIs Kids ret_bool ret_i64 Reads veil Flat tcells)
open Words (str_no str_yes NumLaid)
open Chars (isin BytesAt)

/-- A part of the grammar, which function number K reads: what it comes to with fuel m. -/
def PE (K : Nat) (F : List Tok → Nat → St → Option (St × Tm)) (m : Nat) : Prop :=
  ∀ (w : World) (P g n c i : Nat) (ts : List Tok) (r : St × Tm), PR w P g n c i ts → Lay w P → F ts m ⟨i, false⟩ = some r → Calls Tryz.prog K #[.pointer (some ⟨P, 0, none⟩)] w (PartEnd P g n c ts r w)

theorem part_pass {B P g n c N : Nat} {ts : List Tok} {r : St × Tm} {w w1 w2 W : World} {h : Hd} {p : Option Addr} {l d : Nat} (hb : r.1.bad = false) (hT : TmIs (fresh w1.heap.size w2) h p l d r.2) (hp : PR w2 P g n c r.1.i ts) (how : Off P w w2)
    (hB : B ≤ w1.heap.size) (hN : N < w1.heap.size) (hold : P < w.heap.size ∧ g < w.heap.size) (hW : ∀ k, k ≠ N → W.heap[k]? = w2.heap[k]?) (hBW : Below w.heap.size w2 W) :
    PartB B P g n c ts r w (.returned (.agg #[.int .u8 h.k, .int .u8 h.op, .int .i64 h.pl, .int .i64 h.n, .string h.name, .string h.arg, .string h.exn, .slice p l d])) W :=
  .inl ⟨hb, ⟨h, p, l, d, rfl, hT.reads' (fresh_box hB hN fun k hk _ => hW k hk)⟩, how.then hBW, hp.keep hBW hold.1 hold.2⟩
theorem part_thrown {B P g n c : Nat} {ts : List Tok} {r : St × Tm} {w w' : World} {i : Nat} (hb : r.1 = ⟨i, true⟩) (ho : Off P w w') : PartB B P g n c ts r w (.panicked [{ v := .iface 84 (.agg #[.int .u8 (tel ts i).k, .string (tel ts i).s, .int .i64 (tel ts i).a]), recovered := false }]) w' := .inr ⟨by rw [hb], by rw [hb]; rfl, ho⟩
theorem bad_eq {s : St} (h : s.bad = true) : s = ⟨s.i, true⟩ := by cases s; cases h; rfl
theorem good_eq {s : St} (h : s.bad = false) : s = ⟨s.i, false⟩ := by cases s; cases h; rfl
theorem want_ok {ts : List Tok} {i : Nat} {x : ByteArray} (h : textOf ts i = x) : wantF ts ⟨i, false⟩ x = ⟨i + 1, false⟩ := by unfold wantF; rw [if_neg (by simp [h])]
theorem want_no {ts : List Tok} {i : Nat} {x : ByteArray} (h : textOf ts i ≠ x) : wantF ts ⟨i, false⟩ x = ⟨i, true⟩ := by unfold wantF; rw [if_pos (.inr h)]
theorem box_later {P N : Nat} {w w' : World} {o : Obj} (h : w.heap[N]? = some o) (ho : Off P w w') (hN : N ≠ P) : w'.heap[N]? = some o := (ho.block N (lt_of_block h) hN).trans h

set_option maxRecDepth 10000 in
set_option maxHeartbeats 6400000 in
/-- A word, and an expression behind it. -/
theorem behind_walk (m : Nat) (hE : PE 26 exprF m) (w : World) (P g n c i : Nat) (ts : List Tok) (x : ByteArray) (r : St × Tm) (h : PR w P g n c i ts) (hL : Lay w P) (hx : x ∈ wordsL) (hr : exprF ts m (wantF ts ⟨i, false⟩ x) = some r) :
    Calls Tryz.prog 89 #[.pointer (some ⟨P, 0, none⟩), .string x, .func (.func 26) #[.pointer (some ⟨P, 0, none⟩)] #[]] w (PartEnd P g n c ts r w) := by
  have hbox : ∀ O : Obj, Below w.heap.size w (w.alloc O) := fun O => ((Below.refl _ _).alloc (Nat.le_refl _) O)
  have hwd := fun O => word_walk (w.alloc O) P g n c i ts x (h.below (hbox O)) hx
  have hold := h.old
  have HWD := Lib.hid hwd; have HOLD := Lib.hid hold; have HR := Lib.hid hr; have HL := Lib.hid hL; have HE := Lib.hid hE; have HP := Lib.hid h
  unfold WordEnd thrown strayV at HWD
  clear hwd h hbox hold hr hL hE hx
  go_enter Tryz.func89, Tryz.ntmps89
  go_wp2_with (fail)
  refine (HWD.out _).mono ?_
  rintro e w1 (⟨hx, rfl, ho, hp⟩ | ⟨hx, rfl, ho⟩)
  · obtain ⟨h3, h4⟩ := box_off ho HOLD.out.1
    have hr := HR.out
    rw [want_ok hx] at hr
    have hc := HE.out w1 P g n c (i + 1) ts r hp (HL.out.off h4) hr
    have rl := lt_of_block h3
    have HC := Lib.hid hc; have H3 := Lib.hid h3; have H4 := Lib.hid h4
    clear hx hr hc ho hp h3 h4
    go_wp2_with (fail)
    refine HC.out.mono ?_
    rintro e w2 (⟨hb, ⟨h, p, l, d, rfl, hT⟩, ho2, hp2⟩ | ⟨hb, rfl, ho2⟩)
    · have hr := box_later H3.out ho2 (by have := HOLD.out.1; omega)
      obtain ⟨⟨r0, r1, r2, r3, r4, r5, r6, r7⟩, f0, f1, f2, f3, f4, f5, f6, f7⟩ := cells8' hr
      have rl2 := lt_of_block hr
      have H := Lib.hid (And.intro hb (And.intro hT (And.intro ho2 hp2)))
      clear hb hT ho2 hp2 hr
      go_wp2_with (fail)
      refine bodyPost_ret (v := .agg #[.int .u8 h.k, .int .u8 h.op, .int .i64 h.pl, .int .i64 h.n, .string h.name, .string h.arg, .string h.exn, .slice p l d]) (by simp [results, Tryz.results89, go_sem, r0, r1, r2, r3, r4, r5, r6, r7]) rfl
        (part_pass H.out.1 H.out.2.1 H.out.2.2.2 (H4.out.trans H.out.2.2.1) H4.out.size rl HOLD.out (fun k hk => set8_other _ _ _ _ _ _ _ _ _ _ _ hk) (Below.set8 w _ _ (Nat.le_refl _) _ _ _ _ _ _ _ _))
    · unfold thrown strayV
      have H := Lib.hid (And.intro hb ho2)
      clear hb ho2
      go_wp2_with (fail)
      exact ⟨rfl, part_thrown (bad_eq H.out.1) (H4.out.trans H.out.2)⟩
  · obtain ⟨h3, h4⟩ := box_off ho HOLD.out.1
    have hr := HR.out
    rw [want_no hx] at hr
    have hr' := expr_bad ts rfl hr
    have H := Lib.hid (And.intro hr' h4)
    clear hx hr hr' ho h3 h4
    go_wp2_with (fail)
    exact ⟨rfl, part_thrown H.out.1 H.out.2⟩

theorem boxes2 {P : Nat} {w W : World} {O O' : Obj} (h : Off P ((w.alloc O).alloc O') W) (hP : P < w.heap.size) : W.heap[w.heap.size]? = some O ∧ W.heap[w.heap.size + 1]? = some O' ∧ Off P w W := by
  have s1 : (w.alloc O).heap.size = w.heap.size + 1 := by simp
  obtain ⟨h1, h2⟩ := box_off h (by omega)
  obtain ⟨h3, h4⟩ := box_off h2 hP
  exact ⟨h3, by rw [← s1]; exact h1, h4⟩
/-- How a sign and a part end, where the blocks V are seen. -/
def PartV (V : Nat → Bool) (P g n c : Nat) (ts : List Tok) (r : St × Tm) (w : World) (e : Ending) (w' : World) : Prop :=
  (r.1.bad = false ∧ (∃ h p l d, e = .returned (.agg #[.int .u8 h.k, .int .u8 h.op, .int .i64 h.pl, .int .i64 h.n, .string h.name, .string h.arg, .string h.exn, .slice p l d]) ∧ TmIs (veil V w') h p l d r.2) ∧ Off P w w' ∧ PR w' P g n c r.1.i ts) ∨
  (r.1.bad = true ∧ e = thrown (tel ts r.1.i) ∧ Off P w w')
theorem partV_thrown {V : Nat → Bool} {P g n c : Nat} {ts : List Tok} {r : St × Tm} {w w' : World} {i : Nat} (hb : r.1 = ⟨i, true⟩) (ho : Off P w w') : PartV V P g n c ts r w (.panicked [{ v := .iface 84 (.agg #[.int .u8 (tel ts i).k, .string (tel ts i).s, .int .i64 (tel ts i).a]), recovered := false }]) w' := .inr ⟨by rw [hb], by rw [hb]; rfl, ho⟩
set_option maxRecDepth 10000 in
set_option maxHeartbeats 6400000 in
/-- A sign, and a part behind it. -/
theorem signed_walk (m Kp : Nat) (F : List Tok → Nat → St → Option (St × Tm)) (hE : PE Kp F m) (hK : ∀ args w, (callFunc Kp args).run Tryz.prog w = .ok (.enter Kp args) w) (V : Nat → Bool) (w : World) (P g n c i : Nat) (ts : List Tok) (x : ByteArray) (a : Tm) (h : Hd) (p : Option Addr) (l d : Nat) (r : St × Tm) (hR : PR w P g n c i ts) (hL : Lay w P)
    (hx : x ∈ [wPut, wLess, wIs, wAdd, wSub, wMul]) (ht : textOf ts i = x) (hr : F ts m ⟨i + 1, false⟩ = some r) (hB : V P = false ∧ ∀ b, w.heap.size ≤ b → V b = true) (hT : TmIs (veil V w) h p l d a) :
    Calls Tryz.prog 120 #[.pointer (some ⟨P, 0, none⟩), .agg #[.int .u8 h.k, .int .u8 h.op, .int .i64 h.pl, .int .i64 h.n, .string h.name, .string h.arg, .string h.exn, .slice p l d], .func (.func Kp) #[.pointer (some ⟨P, 0, none⟩)] #[]] w (PartV V P g n c ts (r.1, putF x a r.2) w) := by
  have hxl : x ∈ wordsL := by revert hx; unfold wordsL; simp only [List.mem_cons, List.not_mem_nil, or_false]; rintro (rfl | rfl | rfl | rfl | rfl | rfl) <;> simp
  have hne := text_not_end hxl ht
  have hs : (tel ts i).s = x := (hR.good.is_text (by rw [hR.row.len]; exact hR.lt) hxl).2 ht
  have hbox : ∀ O : Obj, Below w.heap.size w (w.alloc O) := fun O => ((Below.refl _ _).alloc (Nat.le_refl _) O)
  have hbox2 : ∀ O O' : Obj, Below w.heap.size w ((w.alloc O).alloc O') := fun O O' => ((Below.refl _ _).alloc (Nat.le_refl _) O).alloc (by simp) O'
  have hpr := fun O O' => hR.below (hbox2 O O')
  have htk := fun O O' => (take_walk ((w.alloc O).alloc O') P g n c i ts (hpr O O') (hR.more hne)).mono fun e w' he => (show e = .returned (tokV (tel ts i)) ∧ Off P ((w.alloc O).alloc O') w' ∧ PR w' P g n c (i + 1) ts from ⟨he.1, he.2.1, (hpr O O').next he.2.1 he.2.2 hne⟩)
  have hold := hR.old
  have HTK := Lib.hid htk; have HOLD := Lib.hid hold; have HR := Lib.hid hr; have HL := Lib.hid hL; have HE := Lib.hid hE; have HT := Lib.hid hT; have HX := Lib.hid (And.intro hx hs)
  have HB := Lib.hid hB
  unfold tokV at HTK
  rw [hs] at HTK
  clear htk hR hbox hbox2 hpr hold hr hL hE hT hx hs hxl hne ht hB
  have hf := fieldTok1
  go_enter Tryz.func120, Tryz.ntmps120
  go_wp2_with (fail)
  refine (HTK.out _ _).mono ?_
  rintro e w1 ⟨rfl, ho, hp⟩
  obtain ⟨h3, h3', h4⟩ := boxes2 ho HOLD.out.1
  have H3 := Lib.hid h3; have H3' := Lib.hid h3'; have H4 := Lib.hid h4; have HP := Lib.hid hp
  clear ho hp h3 h3' h4
  go_wp2_with (fail)
  refine (signHead_walk w1 x HX.out.1).mono ?_
  rintro e w2 ⟨rfl, hb2⟩
  have hbx : ∀ O : Obj, Below w1.heap.size w1 (w2.alloc O).drew := fun O => hb2.trans (((Below.refl _ _).alloc (by exact hb2.size) O).drew)
  have h3 := (hb2.block _ (lt_of_block H3.out)).trans H3.out
  have HBX := Lib.hid hbx
  have hl1 : w.heap.size < w2.heap.size := lt_of_block h3
  have HL2 := Lib.hid (Nat.lt_of_lt_of_le (lt_of_block H3'.out) hb2.size)
  clear hbx hb2
  unfold headV
  go_wp2_with (fail)
  refine wp_region_held_drew (S := fun W => W.heap[w.heap.size]? = some (.cells #[.int .u8 h.k, .int .u8 h.op, .int .i64 h.pl, .int .i64 h.n, .string h.name, .string h.arg, .string h.exn, .slice p l d] 29 (0, 0)) ∧ W.heap[w2.heap.size]? = some (.cells #[.int .u8 (opK x), .int .u8 (opO x), .int .i64 0, .int .i64 0, .string ⟨#[]⟩, .string ⟨#[]⟩, .string ⟨#[]⟩] 26 (0, 0))) (by kernel_rfl) ?_ (fun hHeld => ?_)
  · exact ⟨(Below.heap_alloc _ _ _ hl1).trans h3, heap_alloc_new w2 _⟩
  refine wpAnyH_take (i := 0) (v := .agg #[.int .u8 (opK x), .int .u8 (opO x), .int .i64 0, .int .i64 0, .string ⟨#[]⟩, .string ⟨#[]⟩, .string ⟨#[]⟩]) rfl (by kernel_rfl) (by kernel_rfl) (by kernel_rfl) (fun _ _ _ h => h) (Or.inl ⟨by rfl, ?_⟩) (by assumption) ?_
  · intro w' hSw
    obtain ⟨⟨q0, q1, q2, q3, q4, q5, q6⟩, e0, e1, e2, e3, e4, e5, e6⟩ := cells7' hSw.2
    go_simp
  try simp only [Act.put, List.setIfInBounds_toArray, List.set_cons_zero, List.set_cons_succ]
  refine wpAnyH_take (i := 1) (v := .agg #[.int .u8 h.k, .int .u8 h.op, .int .i64 h.pl, .int .i64 h.n, .string h.name, .string h.arg, .string h.exn, .slice p l d]) rfl (by kernel_rfl) (by kernel_rfl) (by kernel_rfl) (fun _ _ _ h => h) (Or.inl ⟨by rfl, ?_⟩) (by assumption) ?_
  · intro w' hSw
    obtain ⟨⟨q0, q1, q2, q3, q4, q5, q6, q7⟩, e0, e1, e2, e3, e4, e5, e6, e7⟩ := cells8' hSw.1
    go_simp
  try simp only [Act.put, List.setIfInBounds_toArray, List.set_cons_zero, List.set_cons_succ]
  refine wpAnyH_take (i := 2) (v := .func (.func Kp) #[.pointer (some ⟨P, 0, none⟩)] #[]) rfl (by kernel_rfl) (by kernel_rfl) (by kernel_rfl) (fun _ _ _ h => h) (Or.inl ⟨by rfl, ?_⟩) (by assumption) ?_
  · intro w' hSw
    go_simp
  try simp only [Act.put, List.setIfInBounds_toArray, List.set_cons_zero, List.set_cons_succ]
  refine wpAnyH_ready (rs := [3]) (by kernel_rfl) (by simp) ?_
  refine AllReadyH.cons rfl (fun K hK' => ?_) AllReadyH.nil
  go_simp
  have hb := HBX.out (.cells #[.int .u8 (opK x), .int .u8 (opO x), .int .i64 0, .int .i64 0, .string ⟨#[]⟩, .string ⟨#[]⟩, .string ⟨#[]⟩] 26)
  refine (HE.out _ P g n c (i + 1) ts r (HP.out.below hb) (HL.out.off (H4.out.trans (Off.of_below hb))) HR.out).mono ?_
  rintro e w3 (⟨hbd, ⟨h2, p2, l2, d2, rfl, hT2⟩, ho3, hp3⟩ | ⟨hbd, rfl, ho3⟩)
  · have ho := (H4.out.trans (Off.of_below hb)).trans ho3
    have hne1 : w.heap.size ≠ P := by have := HOLD.out.1; omega
    have hne2 : w2.heap.size ≠ P := by have := HOLD.out.1; omega
    have t1 := box_later hHeld.1 ho3 hne1
    have t2 := box_later hHeld.2 ho3 hne2
    have t3 := box_later H3'.out ((Off.of_below hb).trans ho3) (by have := HOLD.out.1; omega)
    have hT1 : TmIs (veil (fun b => V b && decide (b ≠ w.heap.size + 1)) w3) h p l d a := HT.out.reads' (Term.veil_to fun b hbw hv => by
      have hbP : b ≠ P := fun e => by rw [e, HB.out.1] at hv; cases hv
      exact ⟨by rw [hv, decide_eq_true (by omega)]; rfl, ho.block b hbw hbP⟩)
    have hU1 : TmIs (veil (fun b => V b && decide (b ≠ w.heap.size + 1)) w3) h2 p2 l2 d2 r.2 := hT2.reads' (Term.veil_to fun b hbw hv => by
      have hv := of_decide_eq_true hv
      have := HL2.out
      have hsz : w2.heap.size ≤ b := Nat.le_trans (Nat.le_of_lt (by simp)) hv
      exact ⟨by rw [HB.out.2 b (by omega), decide_eq_true (by omega)]; rfl, rfl⟩)
    have hjn := joined_walk w3 (fun b => V b && decide (b ≠ w.heap.size + 1)) a r.2 (opK x) (opO x) 0 h.k h.op h.pl h.n h2.k h2.op h2.pl h2.n h.name h.arg h.exn h2.name h2.arg h2.exn p p2 l d l2 d2 (fun b hbw => by
      have := HL2.out; have := ho3.size; have := ho.size
      have hs : w2.heap.size ≤ (w2.alloc (.cells #[.int .u8 (opK x), .int .u8 (opO x), .int .i64 0, .int .i64 0, .string ⟨#[]⟩, .string ⟨#[]⟩, .string ⟨#[]⟩] 26)).drew.heap.size := Nat.le_of_lt (by simp)
      show (V b && decide (b ≠ w.heap.size + 1)) = true
      rw [HB.out.2 b (by omega), decide_eq_true (by omega)]; rfl) hT1 hU1 ⟨(opB x).1, (opB x).2.1⟩ ⟨(opB x).2.2.1, (opB x).2.2.2⟩
    have HJ := Lib.hid hjn; have HO := Lib.hid ho; have HP3 := Lib.hid hp3; have T3 := Lib.hid t3; have HBD := Lib.hid hbd
    clear hb hT2 ho3 hp3 ho t3 hT1 hU1 hjn hbd hHeld
    refine hK'.out _ _ ⟨t1, t2⟩ (fun hHeld => ?_)
    try simp only [Act.put, List.setIfInBounds_toArray, List.set_cons_zero, List.set_cons_succ]
    refine wpAnyH_ready (rs := [4]) (by kernel_rfl) (by simp) ?_
    refine AllReadyH.cons rfl (fun K hK'' => ?_) AllReadyH.nil
    clear hK'
    go_simp
    have hl2 : w.heap.size + 1 < w2.heap.size := HL2.out
    refine HJ.out.mono ?_
    rintro e w4 ⟨q, rfl, hT4, hb4⟩
    have t3 := (hb4.block _ (lt_of_block T3.out)).trans T3.out
    obtain ⟨⟨r0, r1, r2, r3, r4, r5, r6, r7⟩, f0, f1, f2, f3, f4, f5, f6, f7⟩ := cells8' t3
    have rl := lt_of_block t3
    have HT4 := Lib.hid hT4; have HB4 := Lib.hid hb4
    have u1 := (hb4.block _ (lt_of_block hHeld.1)).trans hHeld.1
    have u2 := (hb4.block _ (lt_of_block hHeld.2)).trans hHeld.2
    clear t3 hT4 hb4 hHeld
    refine hK''.out _ _ ⟨u1, u2⟩ (fun hHeld => ?_)
    try simp only [Act.put, List.setIfInBounds_toArray, List.set_cons_zero, List.set_cons_succ]
    refine wpAnyH_ready (rs := [5]) (by kernel_rfl) (by simp) ?_
    refine AllReadyH.cons rfl (fun K hK3 => ?_) AllReadyH.nil
    clear hK'' u1 u2
    have HH := Lib.hid hHeld
    clear hHeld
    go_simp
    refine hK3.out _ _ ⟨(set8_other _ _ _ _ _ _ _ _ _ _ _ (by omega)).trans HH.out.1, (set8_other _ _ _ _ _ _ _ _ _ _ _ (by omega)).trans HH.out.2⟩ (fun hHeld => ?_)
    refine wpAnyH_done (by kernel_rfl) ?_ _
    clear hK3 hHeld
    go_wp2_with (fail)
    refine bodyPost_ret (v := .agg #[.int .u8 (opK x), .int .u8 (opO x), .int .i64 a.h.pl, .int .i64 0, .string ⟨#[]⟩, .string ⟨#[]⟩, .string ⟨#[]⟩, .slice q 2 2]) (by simp [results, Tryz.results120, go_sem, r0, r1, r2, r3, r4, r5, r6, r7]) rfl ?_
    have hbw := Below.set8 w w4 (w.heap.size + 1) (by omega) (.int .u8 (opK x)) (.int .u8 (opO x)) (.int .i64 a.h.pl) (.int .i64 0) (.string ⟨#[]⟩) (.string ⟨#[]⟩) (.string ⟨#[]⟩) (.slice q 2 2)
    refine .inl ⟨HBD.out, ⟨⟨opK x, opO x, a.h.pl, 0, ⟨#[]⟩, ⟨#[]⟩, ⟨#[]⟩⟩, q, 2, 2, rfl, ?_⟩, (HO.out.trans (Off.of_below HB4.out)).then hbw, (HP3.out.below HB4.out).keep hbw HOLD.out.1 HOLD.out.2⟩
    exact HT4.out.reads' (Term.veil_to fun b hbw hv => by
      rw [Bool.and_eq_true] at hv
      exact ⟨hv.1, set8_other _ _ _ _ _ _ _ _ _ _ _ (of_decide_eq_true hv.2)⟩)
  · have HBD := Lib.hid (And.intro hbd ((H4.out.trans (Off.of_below hb)).trans ho3))
    unfold thrown strayV
    clear hbd ho3 hb
    exact ⟨rfl, partV_thrown (bad_eq HBD.out.1) HBD.out.2⟩
end Parse
end Go.Proofs.YtadpjkehflokcaaGreatDoor
namespace Go.Proofs.YtadpjkehflokcaaGreatDoor
open Go.RowKit
set_option linter.unusedVariables false
set_option linter.unusedSimpArgs false
namespace Parse
open Token (Tok tel ToksAt)
open Term (Tm Hd TmIs Kids ret_bool ret_i64 Reads veil Flat tcells)
open Words (str_no str_yes NumLaid)
open Chars (isin BytesAt)

section
variable (ts : List Tok)
theorem parts_cons {m : Nat} {x : ByteArray} {xs : List ByteArray} {s : St} {q : St × List Tm} (h : partsF ts m (x :: xs) s = some q) :
    ∃ m1 r1 q1, m = m1 + 1 ∧ exprF ts m1 (if x = e0 then s else wantF ts s x) = some r1 ∧ partsF ts m1 xs r1.1 = some q1 ∧ q = (q1.1, r1.2 :: q1.2) := by
  cases m with
  | zero => unfold partsF at h; cases h
  | succ m =>
    unfold partsF at h
    obtain ⟨r1, h1, h2⟩ := Option.bind_eq_some_iff.1 h
    obtain ⟨q1, h3, h4⟩ := Option.map_eq_some_iff.1 h2
    exact ⟨m, r1, q1, rfl, h1, h3, h4.symm⟩
theorem parts_nil {m : Nat} {s : St} {q : St × List Tm} (h : partsF ts m [] s = some q) : q = (s, []) := by
  cases m with
  | zero => unfold partsF at h; cases h
  | succ m => unfold partsF at h; injection h with h; exact h.symm
theorem parts1 {m : Nat} {x : ByteArray} {s : St} {q : St × List Tm} (hx : x ≠ e0) (h : partsF ts m [x] s = some q) : ∃ m1 r1, m1 ≤ m ∧ exprF ts m1 (wantF ts s x) = some r1 ∧ q = (r1.1, [r1.2]) := by
  obtain ⟨m1, r1, q1, rfl, h1, h2, h3⟩ := parts_cons ts h
  rw [if_neg hx] at h1
  have h4 := parts_nil ts h2
  exact ⟨m1, r1, by omega, h1, by rw [h3, h4]⟩
theorem parts2 {m : Nat} {x y : ByteArray} {s : St} {q : St × List Tm} (hx : x ≠ e0) (hy : y ≠ e0) (h : partsF ts m [x, y] s = some q) :
    ∃ m1 r1 m2 r2, m1 ≤ m ∧ m2 ≤ m ∧ exprF ts m1 (wantF ts s x) = some r1 ∧ exprF ts m2 (wantF ts r1.1 y) = some r2 ∧ q = (r2.1, [r1.2, r2.2]) := by
  obtain ⟨m1, r1, q1, rfl, h1, h2, h3⟩ := parts_cons ts h
  rw [if_neg hx] at h1
  obtain ⟨m2, r2, h5, h6, h7⟩ := parts1 ts hy h2
  exact ⟨m1, r1, m2, r2, by omega, by omega, h1, h6, by rw [h3, h7]⟩
theorem parts0 {m : Nat} {s : St} {q : St × List Tm} (h : partsF ts m [e0] s = some q) : ∃ m1 r1, m1 ≤ m ∧ exprF ts m1 s = some r1 ∧ q = (r1.1, [r1.2]) := by
  obtain ⟨m1, r1, q1, rfl, h1, h2, h3⟩ := parts_cons ts h
  rw [if_pos rfl] at h1
  have h4 := parts_nil ts h2
  exact ⟨m1, r1, by omega, h1, by rw [h3, h4]⟩
theorem parts3 {m : Nat} {x y : ByteArray} {s : St} {q : St × List Tm} (hx : x ≠ e0) (hy : y ≠ e0) (h : partsF ts m [e0, x, y] s = some q) :
    ∃ m0 r0 m1 r1 m2 r2, m0 ≤ m ∧ m1 ≤ m ∧ m2 ≤ m ∧ exprF ts m0 s = some r0 ∧ exprF ts m1 (wantF ts r0.1 x) = some r1 ∧ exprF ts m2 (wantF ts r1.1 y) = some r2 ∧ q = (r2.1, [r0.2, r1.2, r2.2]) := by
  obtain ⟨m0, r0, q1, rfl, h1, h2, h3⟩ := parts_cons ts h
  rw [if_pos rfl] at h1
  obtain ⟨m1, r1, m2, r2, h5, h6, h7, h8, h9⟩ := parts2 ts hx hy h2
  exact ⟨m0, r0, m1, r1, m2, r2, by omega, by omega, by omega, h1, h7, h8, by rw [h3, h9]⟩
theorem then_bad {m : Nat} {x : ByteArray} {s : St} {r : St × Tm} (h : s.bad = true) (he : exprF ts m (wantF ts s x) = some r) : r.1 = s := by
  rw [want_bad ts h] at he
  exact expr_bad ts h he
theorem get_ok {i : Nat} {k : Int} (h : (tel ts i).k = k) : getF ts ⟨i, false⟩ k = ⟨i + 1, false⟩ ∧ getS ts ⟨i, false⟩ k = (tel ts i).s := by
  unfold getF getS; rw [if_neg (by simp [h]), if_neg (by simp [h])]; exact ⟨rfl, rfl⟩
theorem get_no {i : Nat} {k : Int} (h : (tel ts i).k ≠ k) : getF ts ⟨i, false⟩ k = ⟨i, true⟩ := by
  unfold getF; rw [if_pos (.inr h)]
end
theorem ne_e0 : wIs ≠ e0 ∧ wIn ≠ e0 ∧ wArrow ≠ e0 ∧ wThen ≠ e0 ∧ wElse ≠ e0 := by decide +kernel

theorem set_block {w : World} {N j : Nat} {cs : Array Value} {ty : TypeId} {v : Value} (h : w.heap[N]? = some (.cells cs ty (0, 0))) : (w.setCell ⟨N, j, none⟩ v).heap[N]? = some (.cells (cs.setIfInBounds j v) ty (0, 0)) := by
  simp [World.setCell, Array.getElem?_modify, h]
theorem set_new (w : World) (N j : Nat) (v : Value) : Below N w (w.setCell ⟨N, j, none⟩ v) := (Below.refl N w).setCell (show N ≤ N from Nat.le_refl N) v
theorem kid_up {P : Nat} {w wa wb W : World} {h : Hd} {p : Option Addr} {l d : Nat} {t : Tm} (hT : TmIs (fresh wa.heap.size wb) h p l d t) (hw : w.heap.size < wa.heap.size) (hP : P < w.heap.size) (ho : Off P wb W) : TmIs (fresh (w.heap.size + 1) W) h p l d t :=
  hT.reads' (fresh_off (by omega) (by omega) ho)
/-- A term of kids is handed back. -/
theorem node_end {P g n c : Nat} {ts : List Tok} {r : St × Tm} {w w6 W : World} {b L : Nat} {k a : Int} {nm ar ex : ByteArray} {xs : List Value} {kids : List Tm} {ty : TypeId} (hr : r.1.bad = false) (hr2 : r.2 = .node ⟨k, 0, a, 0, nm, ar, ex⟩ kids)
    (hrow : w6.heap[b]? = some (.cells xs.toArray ty (0, 0))) (hb : w.heap.size < b) (hf : Flat (fresh (w.heap.size + 1) w6) xs kids) (hL : kids.length = L) (hl : L ≤ maxLen) (hd : Term.HdOk ⟨k, 0, a, 0, nm, ar, ex⟩) (ho : Off P w w6) (hp : PR w6 P g n c r.1.i ts) (hold : P < w.heap.size ∧ g < w.heap.size)
    (hW : ∀ j, j ≠ w.heap.size → W.heap[j]? = w6.heap[j]?) (hBW : Below w.heap.size w6 W) :
    PartB w.heap.size P g n c ts r w (.returned (.agg #[.int .u8 k, .int .u8 0, .int .i64 a, .int .i64 0, .string nm, .string ar, .string ex, .slice (some ⟨b, 0, none⟩) L L])) W := by
  subst hL
  have hT := tm_row (V := fun i => decide (w.heap.size + 1 ≤ i)) (h := ⟨k, 0, a, 0, nm, ar, ex⟩) (decide_eq_true hb) hrow hf hd hl
  refine .inl ⟨hr, ⟨⟨k, 0, a, 0, nm, ar, ex⟩, some ⟨b, 0, none⟩, kids.length, kids.length, rfl, ?_⟩, ho.then hBW, hp.keep hBW hold.1 hold.2⟩
  rw [hr2]
  exact hT.reads' (fresh_box (B := w.heap.size) (by omega) (by omega) fun j hj _ => hW j hj)
theorem hd_any {k pl : Int} {nm ar ex : ByteArray} (hk : 0 ≤ k ∧ k ≤ 255) (hp : -9223372036854775808 ≤ pl ∧ pl ≤ 9223372036854775807) (h1 : nm.size ≤ 70000) (h2 : ar.size ≤ 70000) (h3 : ex.size ≤ 70000) : Term.HdOk ⟨k, 0, pl, 0, nm, ar, ex⟩ :=
  ⟨hk, ⟨Int.le_refl _, by show (0 : Int) ≤ 255; omega⟩, hp, small0, by unfold maxLen; show nm.size ≤ _; omega, by unfold maxLen; show ar.size ≤ _; omega, by unfold maxLen; show ex.size ≤ _; omega⟩
theorem e0_small : (⟨#[]⟩ : ByteArray).size ≤ 70000 := by decide
theorem unary_bad (ts : List Tok) {n : Nat} {s : St} {r : St × Tm} (h : s.bad = true) (he : unaryF ts n s = some r) : r.1 = s := by
  cases n with
  | zero => unfold unaryF at he; cases he
  | succ n => unfold unaryF at he; rw [if_pos h] at he; injection he with he; rw [← he]
end Parse
end Go.Proofs.YtadpjkehflokcaaGreatDoor
