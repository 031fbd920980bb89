/-Copies of a number's term in a row: the program's slices.Repeat, and math/bits.Mul beneath it. The walk of the document's May. The walk of the document's head of terms with regions. (Written by wip/tools/atrefnode.py.) The program's from: are all regions from a number on? (Written by wip/tools/atfits.py.) -/
import Derived.Test.YtolpdhkgkjnbfaaGreatDoorGC09
import Derived.Laws.CopyRow
import Derived.Laws.MakeOwn
import Derived.Shelf.Bits.Mul64
import Derived.StillTailTactics
import Derived.IntWalk
import Derived.Deep.Cut
import Derived.Deep.CutRange
import Derived.StillTactics
import Derived.Deep.RegionLaw
import Derived.Deep.MidRow
import Derived.Test.YtolpdhkgkjnbfaaGreatDoorGC02
import Derived.Test.YtolpdhkgkjnbfaaGreatDoorGC08
import Derived.Test.YtolpdhkgkjnbfaaGreatDoorGC01
namespace Go.Proofs.YtolpdhkgkjnbfaaGreatDoor
open Go.RowKit
set_option linter.unusedVariables false
set_option linter.unusedSimpArgs false
namespace Aterm

/-- The copy of as many elements of S cells as the shorter one has. -/
theorem run_copy_wide {P : Program} {w : World} (dT sT ty elem : TypeId) (S : Nat) (hu : P.underlying dT = some (.slice elem)) (hsz : (P.info? elem).map (·.size) = some S)
    (g off dLen dCap : Nat) (ad : Addr) (sLen sCap : Nat) (cur : List Value) (t : TypeId) (hg : w.heap[g]? = some (.cells cur.toArray t (0, 0))) (cs : List Value) (n : Nat) (hn : Nat.min sLen dLen = n) (hcs : cs.length = n * S)
    (hsrc : ∀ j v, cs[j]? = some v → w.cell? (ad.add j) = some v) (hfit : off + cs.length ≤ cur.length) (h1 : ∀ v ∈ cs, v.oneCell' = true) :
    (Builtin.copy_ #[dT, sT] ty #[.slice (some ⟨g, off, none⟩) dLen dCap, .slice (some ad) sLen sCap]).run P w = .ok (.int .i64 n) (w.setRow g (cur.take off ++ cs ++ cur.drop (off + cs.length)).toArray) := by
  have hl := run_loadCells_list (P := P) w ad cs hsrc
  have hst := run_storeCells_at P g off t cs 0 cur.toArray w hg (by simpa using hfit) h1
  simp only [Nat.add_zero] at hst
  cases hq : P.info? elem with
  | none => simp [hq] at hsz
  | some i =>
    have hi : i.size = S := by simpa [hq] using hsz
    simp only [Builtin.copy_, Sem.run_bind, Sem.run_pure, Result.andThen_ok, run_underlying hu, Builtin.lenOf, hn, sizeOf, typeInfo, hq, hi, Builtin.firstCells, ← hcs, hl, List.getElem?_toArray, List.getElem?_cons_zero, List.getElem?_cons_succ]
    simp [hst, hu, run_underlying hu, hq, hi, hn, ← hcs, hl, Builtin.lenOf, Builtin.firstCells, sizeOf, typeInfo]
    rfl

set_option maxHeartbeats 1000000 in
theorem mul64_walk (x y : Nat) (hx : x < 18446744073709551616) (hy : y < 18446744073709551616) (w : World) :
    Calls Tryz.prog 92 #[.int .u64 x, .int .u64 y] w fun e w' => e = .returned (.tuple #[.int .u64 ((x * y / 18446744073709551616 : Nat) : Int), .int .u64 ((x * y % 18446744073709551616 : Nat) : Int)]) ∧ w' = w := by
  obtain ⟨bd, bt, bw, hhi⟩ := Lib.mul64_hi x y hx hy
  have ba := Lib.half_mul_le (a := x / 4294967296) (b := y / 4294967296) (by omega) (by omega)
  have bb := Lib.half_mul_le (a := x / 4294967296) (b := y % 4294967296) (by omega) (by omega)
  have bc := Lib.half_mul_le (a := x % 4294967296) (b := y / 4294967296) (by omega) (by omega)
  have ba' : x / 4294967296 * (y / 4294967296) < 18446744073709551616 := by omega
  have bb' : x / 4294967296 * (y % 4294967296) < 18446744073709551616 := by omega
  have bc' : x % 4294967296 * (y / 4294967296) < 18446744073709551616 := by omega
  have bh1 : x / 4294967296 * (y / 4294967296) + (x / 4294967296 * (y % 4294967296) + x % 4294967296 * (y % 4294967296) / 4294967296) / 4294967296 < 18446744073709551616 := by omega
  have bh : x / 4294967296 * (y / 4294967296) + (x / 4294967296 * (y % 4294967296) + x % 4294967296 * (y % 4294967296) / 4294967296) / 4294967296 + ((x / 4294967296 * (y % 4294967296) + x % 4294967296 * (y % 4294967296) / 4294967296) % 4294967296 + x % 4294967296 * (y / 4294967296)) / 4294967296 < 18446744073709551616 := by omega
  go_enter Tryz.func92, Tryz.ntmps92
  go_wp2
  simp only [Mul64.maskN x hx, Mul64.maskN y hy, Mul64.divN, Mul64.mulN, Mul64.addN, Mul64.wrapN _ bd, Mul64.wrapN _ bb', Mul64.wrapN _ bt, Mul64.maskN _ bt, Mul64.wrapN _ bc', Mul64.wrapN _ bw, Mul64.wrapN _ ba', Mul64.wrapN _ bh1, Mul64.wrapN _ bh, Mul64.wrapM (x * y)]
  rw [hhi]
  go_ret2
  exact ⟨rfl, rfl⟩
set_option maxHeartbeats 1000000 in
theorem mul_walk (x y : Nat) (hx : x < 18446744073709551616) (hy : y < 18446744073709551616) (w : World) :
    Calls Tryz.prog 72 #[.int .u64 x, .int .u64 y] w fun e w' => e = .returned (.tuple #[.int .u64 ((x * y / 18446744073709551616 : Nat) : Int), .int .u64 ((x * y % 18446744073709551616 : Nat) : Int)]) ∧ w' = w := by
  have c64 := Lib.hid (mul64_walk x y hx hy w)
  go_enter Tryz.func72, Tryz.ntmps72
  go_wp2_with (fail)
  refine c64.out.mono ?_
  rintro e w' ⟨rfl, hw⟩
  obtain rfl := hw.symm
  go_wp2
  go_ret2
  exact ⟨rfl, rfl⟩

theorem cells8t {W : World} {N : Nat} {a0 a1 a2 a3 a4 a5 a6 a7 : Value} {ty : TypeId} (h : W.heap[N]? = some (.cells #[a0, a1, a2, a3, a4, a5, a6, a7] ty (0, 0))) :
    (W.cell? ⟨N, 0, none⟩ = some a0 ∧ W.cell? ⟨N, 1, none⟩ = some a1 ∧ W.cell? ⟨N, 2, none⟩ = some a2 ∧ W.cell? ⟨N, 3, none⟩ = some a3 ∧ W.cell? ⟨N, 4, none⟩ = some a4 ∧ W.cell? ⟨N, 5, none⟩ = some a5 ∧ W.cell? ⟨N, 6, none⟩ = some a6 ∧ W.cell? ⟨N, 7, none⟩ = some a7) ∧
    (W.frozen? ⟨N, 0, none⟩ = false ∧ W.frozen? ⟨N, 1, none⟩ = false ∧ W.frozen? ⟨N, 2, none⟩ = false ∧ W.frozen? ⟨N, 3, none⟩ = false ∧ W.frozen? ⟨N, 4, none⟩ = false ∧ W.frozen? ⟨N, 5, none⟩ = false ∧ W.frozen? ⟨N, 6, none⟩ = false ∧ W.frozen? ⟨N, 7, none⟩ = false) := by
  simp [World.cell?, World.frozen?, h]
/-! ### What lies in such a row -/
def num0 : Term.Hd := ⟨1, 0, 0, 0, ⟨#[]⟩, ⟨#[]⟩, ⟨#[]⟩⟩
def numT : Term.Tm := .node num0 []
def zero8 : Array Value := #[.int .u8 0, .int .u8 0, .int .i64 0, .int .i64 0, .string ⟨#[]⟩, .string ⟨#[]⟩, .string ⟨#[]⟩, .slice none 0 0]
def num8 : Array Value := #[.int .u8 1, .int .u8 0, .int .i64 0, .int .i64 0, .string ⟨#[]⟩, .string ⟨#[]⟩, .string ⟨#[]⟩, .slice none 0 0]
def layAt (n i : Nat) : Value := if i < n * 8 then num8[i % 8]! else zero8[i % 8]!
def lay (n m : Nat) : List Value := (List.range (m * 8)).map (layAt n)
def nums (k : Nat) : List Value := (List.range (k * 8)).map fun i => num8[i % 8]!
theorem lay_len (n m : Nat) : (lay n m).length = m * 8 := by simp [lay]
theorem nums_len (k : Nat) : (nums k).length = k * 8 := by simp [nums]
theorem lay_at {n m i : Nat} (h : i < m * 8) : (lay n m)[i]? = some (layAt n i) := by simp [lay, h]
theorem nums_at {k i : Nat} (h : i < k * 8) : (nums k)[i]? = some num8[i % 8]! := by simp [nums, h]
theorem lay_zero (m : Nat) : madeCells zero8 (m * 8) = (lay 0 m).toArray := by
  apply Array.toList_inj.1
  unfold madeCells lay
  rw [Array.toList_map, Array.toList_range]
  apply List.map_congr_left
  intro i _
  unfold layAt
  rw [if_neg (by omega)]
  rfl
theorem lay_step {n m k : Nat} (h : n + k ≤ m) : (lay n m).take (n * 8) ++ nums k ++ (lay n m).drop (n * 8 + (nums k).length) = lay (n + k) m := by
  rw [nums_len]
  apply List.ext_getElem?
  intro i
  have hl : ((lay n m).take (n * 8)).length = n * 8 := by rw [List.length_take, lay_len]; omega
  by_cases h1 : i < n * 8
  · rw [List.append_assoc, List.getElem?_append_left (by omega), List.getElem?_take_of_lt h1, lay_at (by omega), lay_at (by omega)]
    unfold layAt
    rw [if_pos h1, if_pos (by omega)]
  · by_cases h2 : i < n * 8 + k * 8
    · rw [List.append_assoc, List.getElem?_append_right (by omega), hl, List.getElem?_append_left (by rw [nums_len]; omega), nums_at (by omega), lay_at (by omega)]
      unfold layAt
      rw [if_pos (by omega), show (i - n * 8) % 8 = i % 8 from by omega]
    · rw [List.getElem?_append_right (by rw [List.length_append, hl, nums_len]; omega), List.length_append, hl, nums_len, List.getElem?_drop, show n * 8 + k * 8 + (i - (n * 8 + k * 8)) = i from by omega]
      by_cases h3 : i < m * 8
      · rw [lay_at h3, lay_at h3]
        unfold layAt
        rw [if_neg h1, if_neg (by omega)]
      · rw [List.getElem?_eq_none (by rw [lay_len]; omega), List.getElem?_eq_none (by rw [lay_len]; omega)]
theorem num8_one (i : Nat) : (num8[i % 8]!).oneCell' = true := by
  have h : i % 8 < 8 := Nat.mod_lt _ (by omega)
  generalize i % 8 = j at *
  match j, h with
  | 0, _ => rfl
  | 1, _ => rfl
  | 2, _ => rfl
  | 3, _ => rfl
  | 4, _ => rfl
  | 5, _ => rfl
  | 6, _ => rfl
  | 7, _ => rfl
theorem nums_one (k : Nat) : ∀ v ∈ nums k, v.oneCell' = true := by
  intro v hv
  unfold nums at hv
  obtain ⟨i, _, rfl⟩ := List.mem_map.1 hv
  exact num8_one i
theorem nums_src {W : World} {g n m k : Nat} {t : TypeId} (hg : W.heap[g]? = some (.cells (lay n m).toArray t (0, 0))) (hk : k ≤ n) (hm : n ≤ m) : ∀ j v, (nums k)[j]? = some v → W.cell? ((⟨g, 0, none⟩ : Addr).add j) = some v := by
  intro j v hv
  have hj : j < k * 8 := by
    rcases Nat.lt_or_ge j (k * 8) with h | h
    · exact h
    · rw [List.getElem?_eq_none (by rw [nums_len]; exact h)] at hv; cases hv
  rw [nums_at hj] at hv
  have h1 := lay_at (n := n) (m := m) (i := j) (by omega)
  unfold layAt at h1
  rw [if_pos (by omega), hv] at h1
  rw [Addr.add_lit]
  simpa [World.cell?, hg] using h1
theorem kids_lay {W : World} {g m : Nat} {t : TypeId} (hg : W.heap[g]? = some (.cells (lay m m).toArray t (0, 0))) : Term.Kids W (some ⟨g, 0, none⟩) (List.replicate m numT) := by
  have hget : ∀ i, i < m → Term.tget (List.replicate m numT) i = numT := fun i hi => by
    unfold Term.tget
    rw [List.getD_eq_getElem?_getD, List.getElem?_replicate, if_pos hi]
    rfl
  refine .atkids g 0 _ (fun _ => none) (fun _ => 0) (fun i hi => ?_) (fun i hi j v hv => ?_) (fun i hi => ?_) (fun i hi => ?_)
  all_goals
    rw [List.length_replicate] at hi
  · rw [hget i hi]
    exact ⟨by decide, by decide, by decide, by decide, by unfold maxLen; decide, by unfold maxLen; decide, by unfold maxLen; decide⟩
  · rw [hget i hi] at hv
    have hv' : (Term.tcells num0 none 0 0)[j]? = some v := hv
    have hj : j < 8 := by
      rcases Nat.lt_or_ge j 8 with h | h
      · exact h
      · rw [List.getElem?_eq_none (by simpa [Term.tcells] using h)] at hv'; cases hv'
    have h1 := lay_at (n := m) (m := m) (i := i * 8 + j) (by omega)
    unfold layAt at h1
    rw [if_pos (by omega), show (i * 8 + j) % 8 = j from by omega] at h1
    have h2 : num8[j]! = v := by
      match j, hj with
      | 0, _ => exact Option.some.inj hv'
      | 1, _ => exact Option.some.inj hv'
      | 2, _ => exact Option.some.inj hv'
      | 3, _ => exact Option.some.inj hv'
      | 4, _ => exact Option.some.inj hv'
      | 5, _ => exact Option.some.inj hv'
      | 6, _ => exact Option.some.inj hv'
      | 7, _ => exact Option.some.inj hv'
    rw [h2] at h1
    simpa [World.cell?, hg] using h1
  · rw [hget i hi]
    unfold maxLen
    exact ⟨Nat.le_refl _, by omega⟩
  · rw [hget i hi]
    exact .nokids _

theorem lt_block_new (w : World) (O : Obj) : (w.alloc O).heap[w.heap.size]? = some O := by
  show (w.heap.push O)[w.heap.size]? = some O
  rw [Array.getElem?_push]; simp
/-- The copy of numbers behind those that are there. -/
theorem run_copy_lay {P : Program} {w : World} (dT sT ty elem : TypeId) (hu : P.underlying dT = some (.slice elem)) (hsz : (P.info? elem).map (·.size) = some 8)
    (g off dLen dCap : Nat) (ad : Addr) (sLen sCap : Nat) (t : TypeId) (n m k : Nat)
    (hg : w.heap[g]? = some (.cells (lay n m).toArray t (0, 0))) (hoff : off = n * 8) (hk : Nat.min sLen dLen = k) (hnk : n + k ≤ m)
    (hsrc : ∀ j v, (nums k)[j]? = some v → w.cell? (ad.add j) = some v) :
    ∃ w', (Builtin.copy_ #[dT, sT] ty #[.slice (some ⟨g, off, none⟩) dLen dCap, .slice (some ad) sLen sCap]).run P w = .ok (.int .i64 k) w' ∧ w'.heap[g]? = some (.cells (lay (n + k) m).toArray t (0, 0)) ∧ Below g w w' := by
  subst hoff
  have h := run_copy_wide (P := P) (w := w) dT sT ty elem 8 hu hsz g (n * 8) dLen dCap ad sLen sCap (lay n m) t hg (nums k) k hk (nums_len k) hsrc (by rw [nums_len, lay_len]; omega) (nums_one k)
  rw [lay_step hnk] at h
  exact ⟨_, h, setRow_heap w g _ _ t _ hg, ⟨rfl, rfl, rfl, by simp [World.setRow], fun k hk => setRow_other w g k _ (by omega)⟩⟩
theorem copy_lay {P : Program} {w : World} {ops : Array Oper} {rest : List Oper} {o : Oper} {a : Act} {Q : Exit → Act → World → Prop} (hgd : o.guard = none) (d s : Operand) (dT sT : TypeId)
    (ho : o.op = .call { callee := .builtin .copy, args := #[d, s], argTypes := #[dT, sT] }) (elem : TypeId) (hu : P.underlying dT = some (.slice elem)) (hsz : (P.info? elem).map (·.size) = some 8)
    (g off dLen dCap : Nat) (ad : Addr) (sLen sCap : Nat) (hd : a.eval d = .slice (some ⟨g, off, none⟩) dLen dCap) (hs : a.eval s = .slice (some ad) sLen sCap) (t : TypeId) (n m k : Nat)
    (hg : w.heap[g]? = some (.cells (lay n m).toArray t (0, 0))) (hoff : off = n * 8) (hk : Nat.min sLen dLen = k) (hnk : n + k ≤ m)
    (hsrc : ∀ j v, (nums k)[j]? = some v → w.cell? (ad.add j) = some v)
    (h : ∀ w', w'.heap[g]? = some (.cells (lay (n + k) m).toArray t (0, 0)) → Below g w w' → wpList P ops Q rest (a.put o.dst (.int .i64 k)) w') : wpList P ops Q (o :: rest) a w := by
  refine wpList_plain hgd fun K hK => ?_
  obtain ⟨w', h1, h2, h3⟩ := run_copy_lay (P := P) (w := w) dT sT o.type elem hu hsz g off dLen dCap ad sLen sCap t n m k hg hoff hk hnk hsrc
  unfold Oper.wp
  simp only [execOp, ho, resolve, invoke, builtin, Sem.run_bind, Sem.run_pure, Result.andThen_ok, List.map_toArray, List.map_cons, List.map_nil, hd, hs, h1]
  exact hK _ _ (h w' h2 h3)
theorem step_copy_lay {P : Program} {ops : Array Oper} {o : Oper} {a : Act} {w : World} {K : Act → World → Prop} {Q : Exit → Act → World → Prop} {E : Prop} (hgd : o.guard = none) (d s : Operand) (dT sT : TypeId)
    (ho : o.op = .call { callee := .builtin .copy, args := #[d, s], argTypes := #[dT, sT] }) (elem : TypeId) (hu : P.underlying dT = some (.slice elem)) (hsz : (P.info? elem).map (·.size) = some 8)
    (g off dLen dCap : Nat) (ad : Addr) (sLen sCap : Nat) (hd : a.eval d = .slice (some ⟨g, off, none⟩) dLen dCap) (hs : a.eval s = .slice (some ad) sLen sCap) (t : TypeId) (n m k : Nat)
    (hg : w.heap[g]? = some (.cells (lay n m).toArray t (0, 0))) (hoff : off = n * 8) (hk : Nat.min sLen dLen = k) (hnk : n + k ≤ m)
    (hsrc : ∀ j v, (nums k)[j]? = some v → w.cell? (ad.add j) = some v)
    (h : ∀ w', w'.heap[g]? = some (.cells (lay (n + k) m).toArray t (0, 0)) → Below g w w' → K (a.put o.dst (.int .i64 k)) w') :
    if Region.wanted o (yielded ops a.tmps) = true then Oper.wp P o a w K Q else E := by
  have hw : Region.wanted o (yielded ops a.tmps) = true := by simp [Region.wanted, hgd]
  rw [if_pos hw]
  obtain ⟨w', h1, h2, h3⟩ := run_copy_lay (P := P) (w := w) dT sT o.type elem hu hsz g off dLen dCap ad sLen sCap t n m k hg hoff hk hnk hsrc
  unfold Oper.wp
  simp only [execOp, ho, resolve, invoke, builtin, Sem.run_bind, Sem.run_pure, Result.andThen_ok, List.map_toArray, List.map_cons, List.map_nil, hd, hs, h1]
  exact h w' h2 h3

/-! ### Repeat -/
set_option maxRecDepth 100000 in
set_option maxHeartbeats 3200000 in
theorem repeat_walk (g c m : Nat) (w : World) (hm : m ≤ 4000) (hr : w.rangeAt g 0 (Term.tcells num0 none 0 0)) :
    Calls Tryz.prog 57 #[.slice (some ⟨g, 0, none⟩) 1 c, .int .i64 m] w fun e w' => ∃ q, e = .returned (.slice (some ⟨q, 0, none⟩) m m) ∧ w'.heap[q]? = some (.cells (lay m m).toArray 38 (0, 0)) ∧ w.heap.size ≤ q ∧ Below w.heap.size w w' := by
  obtain ⟨i0, hi, hz0, hz1, hz2⟩ := info_parts Term.infoTerm
  have hmk : ∀ W : World, (Instr.makeSlice 36 (.int .i64 (m : Int)) (.int .i64 (m : Int))).run Tryz.prog W = .ok (.slice (some ⟨W.heap.size, 0, none⟩) m m) (W.alloc (.cells (lay 0 m).toArray 38)) := fun W => by
    have h := run_make (P := Tryz.prog) W 36 38 i0 _ Tryz.underlying36 hi hz0 .i64 .i64 m m (by omega) (Int.le_refl _) (by rw [hz2]; omega) (by omega)
    rw [hz1, Int.toNat_natCast] at h
    rw [h, ← lay_zero]
    rfl
  have hsz : (Tryz.prog.info? 38).map (·.size) = some 8 := by rw [hi]; simp [hz1]
  have hmul := mul_walk 1 m (by omega) (by omega) w
  rw [Nat.one_mul, Nat.div_eq_of_lt (by omega), Nat.mod_eq_of_lt (by omega)] at hmul
  have hsrc : ∀ (W : World), Below w.heap.size w W → ∀ k, k ≤ 1 → ∀ j v, (nums k)[j]? = some v → W.cell? ((⟨g, 0, none⟩ : Addr).add j) = some v := by
    intro W hb k hk j v hv
    have hj : j < k * 8 := by
      rcases Nat.lt_or_ge j (k * 8) with h | h
      · exact h
      · rw [List.getElem?_eq_none (by rw [nums_len]; exact h)] at hv; cases hv
    rw [nums_at hj] at hv
    have h1 : (Term.tcells num0 none 0 0)[j]? = some v := by
      rw [← hv]
      have hj8 : j < 8 := by omega
      match j, hj8 with
      | 0, _ => rfl
      | 1, _ => rfl
      | 2, _ => rfl
      | 3, _ => rfl
      | 4, _ => rfl
      | 5, _ => rfl
      | 6, _ => rfl
      | 7, _ => rfl
    have h2 := hr j v h1
    rw [Addr.add_lit]
    exact (hb.cell (p := ⟨g, 0 + j, none⟩) (World.block_lt_of_cell? w _ h2)).trans h2
  have w1 : IntKind.u64.wrap (m : Int) = m := by rw [IntKind.wrap_u64]; omega
  have w2 : IntKind.i64.wrap (m : Int) = m := by rw [IntKind.wrap_i64]; omega
  have HMUL := Lib.hid hmul; have HSRC := Lib.hid hsrc; have HSZ := Lib.hid hsz; have HMK := Lib.hid hmk
  clear hmul hsrc hsz hi hz0 hz1 hz2 hr hmk
  go_enter Tryz.func57, Tryz.ntmps57
  go_wp2_with (fail)
  refine HMUL.out.mono ?_
  rintro e wx ⟨rfl, hw⟩
  obtain rfl := hw.symm
  clear hw
  have hmk := HMK.out w
  have hd : decide ((9223372036854775807 : Int) < (m : Int)) = false := decide_eq_false (by omega)
  have hg0 := lt_block_new w (.cells (lay 0 m).toArray 38)
  have hb0 : Below w.heap.size w (w.alloc (.cells (lay 0 m).toArray 38)) := (Below.refl _ _).alloc (Nat.le_refl _) _
  obtain ⟨k0, hk0, hk1, hk2, hk3⟩ : ∃ k0, Nat.min 1 m = k0 ∧ k0 ≤ 1 ∧ k0 ≤ m ∧ (m ≠ 0 → k0 = 1) := ⟨_, rfl, Nat.min_le_left 1 m, Nat.min_le_right 1 m, fun h => Nat.min_eq_left (by omega)⟩
  have HK0 := Lib.hid hk0; have HK3 := Lib.hid hk3
  clear hk0 hk3
  have HG0 := Lib.hid hg0; have HB0 := Lib.hid hb0
  clear hg0 hb0
  go_wp2_with (refine copy_lay rfl (.tmp 31) (.tmp 32) 36 36 rfl 38 Tryz.underlying36 HSZ.out w.heap.size 0 m m ⟨g, 0, none⟩ 1 c rfl rfl 38 0 m k0 HG0.out (by omega) HK0.out (by omega) (HSRC.out _ HB0.out _ hk1) ?_; intro w1 hg1 hb1; have HG1 := Lib.hid hg1; have HB1 := Lib.hid (HB0.out.trans hb1); clear hg1 hb1)
  go_loopw [8] (fun n8 wr => ∃ n : Nat, n ≤ m ∧ n8 = .int .i64 n ∧ (m ≠ 0 → 1 ≤ n) ∧ Hid (wr.heap[w.heap.size]? = some (.cells (lay n m).toArray 38 (0, 0))) ∧ Hid (Below w.heap.size w wr)) (fun n8 _ => m - (intOf n8).toNat)
  case atStart => exact ⟨k0, hk2, rfl, fun h => by have := HK3.out h; omega, by rw [Nat.zero_add] at HG1; exact HG1, HB1⟩
  case round =>
    obtain ⟨n, hn, rfl, hn1, HG, HB⟩ := hrel
    by_cases hlt : n < m
    · have hn0 := hn1 (by omega)
      have HN1 := Lib.hid hn1
      clear hn1
      go_upto_region 9 with (fail)
      obtain ⟨k, hk, hk1, hk2⟩ : ∃ k, Nat.min n (m - n) = k ∧ k ≤ n ∧ k ≤ m - n ∧ 1 ≤ k := ⟨_, rfl, Nat.min_le_left _ _, Nat.min_le_right _ _, Nat.le_min.2 ⟨hn0, by omega⟩⟩
      have HK := Lib.hid hk
      clear hk
      have n0 : (0 : Int) ≤ (n : Int) := by omega
      have n1 : (n : Int) ≤ (m : Int) := by omega
      have hwn : IntKind.i64.wrap ((n : Int) + (k : Int)) = (n : Int) + (k : Int) := by rw [IntKind.wrap_i64]; omega
      go_region_law (refine step_copy_lay rfl (.tmp 41) (.tmp 44) 36 36 rfl 38 Tryz.underlying36 HSZ.out w.heap.size (n * 8) (m - n) (m - n) ⟨w.heap.size, 0, none⟩ n m (by simp [Act.eval, Act.put]; try omega) (by simp [Act.eval, Act.put]; try omega) 38 n m k HG.out rfl HK.out (by omega) (nums_src (W := wr.drew) HG.out hk1 hn) ?_; intro w2 hg2 hb2; have HG2 := Lib.hid hg2; have HB2 := Lib.hid (HB.out.drew.trans hb2); clear hg2 hb2)
      all_goals
        go_wp2_with (fail)
        go_roundw
        case rel => exact ⟨n + k, by omega, by omega, fun _ => by omega, HG2⟩
        case measure => simp [intOf]; omega
    · obtain rfl : n = m := by omega
      go_wp2_with (fail)
      go_ret
      exact ⟨w.heap.size, rfl, HG.out, Nat.le_refl _, HB.out⟩
end Aterm
end Go.Proofs.YtolpdhkgkjnbfaaGreatDoor
namespace Go.Proofs.YtolpdhkgkjnbfaaGreatDoor
open Go.RowKit
set_option linter.unusedVariables false
namespace Term

theorem refNode_walk (h : Hd) (p : Option Addr) (l c : Nat) (w : World) (ho : HdOk h) (hl : l ≤ maxLen) :
    Calls Tryz.prog 29 #[.agg #[.int .u8 h.k, .int .u8 h.op, .int .i64 h.pl, .int .i64 h.n, .string h.name, .string h.arg, .string h.exn, .slice p l c]] w fun e w' => e = .returned (.bool (nodeB h l)) ∧ Below w.heap.size w w' := by
  obtain ⟨k, op, pl, nn, nm, ar, ex⟩ := h
  obtain ⟨h1, h2, h3, h4, h5, h6, h7⟩ := ho
  simp only at h1 h2 h3 h4 h5 h6 h7
  have hl' : l ≤ 9223372036854775807 := by unfold maxLen at hl; omega
  by_cases a1 : kidsN k = l ∧ 0 ≤ pl
  · by_cases a2 : opOk ⟨k, op, pl, nn, nm, ar, ex⟩
    · by_cases a3 : nOk ⟨k, op, pl, nn, nm, ar, ex⟩
      · rw [nodeB_yes (h := ⟨k, op, pl, nn, nm, ar, ex⟩) ⟨a1.1, a1.2, a2, a3⟩]
        refine node_fits k op pl nn nm ar ex p l c w h1 h2 hl' a1.1 a1.2 ?_ h5 h6 h7
        unfold opOk at a2
        unfold nOk at a3
        simp only at a2 a3
        by_cases e9 : k = 9
        · subst e9
          rw [if_pos rfl] at a2
          exact .inl ⟨by decide, by decide, by decide, a2.1, a2.2, a3.2.2 (by omega)⟩
        · rw [if_neg e9] at a2
          by_cases e1 : k = 1
          · subst e1
            exact .inr (.inl ⟨by decide, by decide, a2, by decide, a3.1, a3.2.1⟩)
          · exact .inr (.inr ⟨by simpa using e9, by simpa using e9, a2, by simpa using e1, a3.2.2 e1⟩)
      · rw [nodeB_no (h := ⟨k, op, pl, nn, nm, ar, ex⟩) (fun h => a3 h.2.2.2)]
        exact node_ns k op pl nn nm ar ex p l c w h1 h2 hl' a1.1 a1.2 a2 a3
    · rw [nodeB_no (h := ⟨k, op, pl, nn, nm, ar, ex⟩) (fun h => a2 h.2.2.1)]
      exact node_ops k op pl nn nm ar ex p l c w h1 h2 hl' a1.1 a1.2 a2
  · rw [nodeB_no (h := ⟨k, op, pl, nn, nm, ar, ex⟩) (fun h => a1 ⟨h.1, h.2.1⟩)]
    exact node_kids k op pl nn nm ar ex p l c w h1 hl' a1

def nodeOk (t : Tm) : Bool := nodeB t.h t.ks.length
theorem ok_all : ∀ m : Nat, (∀ t, wt t ≤ m → okT t = (flatT t).all nodeOk) ∧ (∀ ts, wts ts ≤ m → okK ts = (flatK ts).all nodeOk) := by
  intro m
  induction m with
  | zero =>
    refine ⟨fun t h => by have := wt_pos t; omega, fun ts h => ?_⟩
    cases ts with
    | nil => rw [flatK_nil, okK_nil]; rfl
    | cons t ts => rw [wts_cons] at h; have := wt_pos t; omega
  | succ m ih =>
    have hT : ∀ t, wt t ≤ m + 1 → okT t = (flatT t).all nodeOk := by
      intro t h
      have hk := wt_ks t
      rw [okT_eq, flatT_eq, List.all_cons, ih.2 t.ks (by omega)]
      rfl
    refine ⟨hT, fun ts => ?_⟩
    induction ts with
    | nil => intro _; rw [flatK_nil, okK_nil]; rfl
    | cons t ts ihs =>
      intro h
      rw [wts_cons] at h
      rw [okK_cons, flatK_cons, List.all_append, hT t (by omega), ihs (by omega)]
theorem mem_tget {F : List Tm} {t : Tm} (h : t ∈ F) : ∃ j, j < F.length ∧ tget F j = t := by
  obtain ⟨j, hj, e⟩ := List.getElem_of_mem h
  refine ⟨j, hj, ?_⟩
  have := tget_at hj
  rw [List.getElem?_eq_getElem hj, e] at this
  exact (Option.some.inj this).symm
theorem ok_no {t : Tm} {j : Nat} (hj : j < (flatT t).length) (h : nodeOk (tget (flatT t) j) = false) : okT t = false := by
  rw [(ok_all (wt t)).1 t (Nat.le_refl _), Bool.eq_false_iff]
  intro ha
  have := List.all_eq_true.1 ha _ (tget_mem hj)
  rw [h] at this
  cases this
theorem ok_yes {t : Tm} (h : ∀ j, j < (flatT t).length → nodeOk (tget (flatT t) j) = true) : okT t = true := by
  rw [(ok_all (wt t)).1 t (Nat.le_refl _), List.all_eq_true]
  intro x hx
  obtain ⟨j, hj, rfl⟩ := mem_tget hx
  exact h j hj

set_option maxRecDepth 10000 in
set_option maxHeartbeats 6400000 in
theorem refMay_walk (t : Tm) (h : Hd) (p : Option Addr) (l c : Nat) (w : World) (hT : TmIs w h p l c t) (hw : wt t ≤ 4000) :
    Calls Tryz.prog 15 #[.agg #[.int .u8 h.k, .int .u8 h.op, .int .i64 h.pl, .int .i64 h.n, .string h.name, .string h.arg, .string h.exn, .slice p l c]] w fun e w' => e = .returned (.bool (mayT t)) ∧ Below w.heap.size w w' := by
  have hr : mayT t = okT t := by unfold mayT; rw [decide_eq_true hw, Bool.true_and]
  have hbox : ∀ O : Obj, Below w.heap.size w (w.alloc O) := fun O => (Below.refl _ _).alloc (Nat.le_refl _) O
  have ha := fun O => refAll_walk (wt t) t h p l c w (w.alloc O) (Nat.le_refl _) (by omega) hT (hbox O)
  have hn := fun (h' : Hd) q l' c' W ho hl => refNode_walk h' q l' c' W ho hl
  obtain ⟨k, op, pl, nn, nm, ar, ex⟩ := h
  have hfl := flatT_len t
  have HR := Lib.hid hr; have HBOX := Lib.hid hbox; have HA := Lib.hid ha; have HN := Lib.hid hn; have HFLEN := Lib.hid hfl
  clear hr hbox ha hn hT hfl
  go_enter Tryz.func15, Tryz.ntmps15
  go_wp2_with (fail)
  refine (HA.out _).mono ?_
  rintro e w1 ⟨g, cc, xs, rfl, hown, hfx, hb1⟩
  have HB1 := Lib.hid ((HBOX.out _).trans (hb1.mono (HBOX.out _).size)); have HO := Lib.hid hown; have HFX := Lib.hid hfx
  clear hb1 hown hfx
  generalize hX : wt t = n at *
  have HX := Lib.hid hX
  clear hX
  go_wp2_with (fail)
  go_loopw [4, 12] (fun _ i wr => ∃ j : Nat, j ≤ n ∧ i = .int .i64 j ∧ Hid (∀ i, i < j → nodeOk (tget (flatT t) i) = true) ∧ Hid (Below w1.heap.size w1 wr)) (fun _ i _ => n - (intOf i).toNat)
  case atStart => exact ⟨0, Nat.zero_le _, rfl, Lib.hid (fun i hi => by omega), Lib.hid (Below.refl _ _)⟩
  case round =>
    obtain ⟨j, hj, rfl, HA2, HW⟩ := hrel
    by_cases hlt : j < n
    · have hjf : j < (flatT t).length := by rw [HFLEN.out]; exact hlt
      obtain ⟨q, c2, hkid, hcells⟩ := HFX.out.get j hjf
      have hrow := own_below HO.out HW.out
      have c0 := row_cell hrow (hcells 0 _ rfl); have c1 := row_cell hrow (hcells 1 _ rfl); have c2' := row_cell hrow (hcells 2 _ rfl); have c3 := row_cell hrow (hcells 3 _ rfl)
      have c4 := row_cell hrow (hcells 4 _ rfl); have c5 := row_cell hrow (hcells 5 _ rfl); have c6 := row_cell hrow (hcells 6 _ rfl); have c7 := row_cell hrow (hcells 7 _ rfl)
      rw [Nat.add_zero] at c0
      have hok := hkid.ok
      have hcap := Nat.le_trans hkid.cap.1 hkid.cap.2
      have HOK := Lib.hid hok; have HCAP := Lib.hid hcap; have HJ := Lib.hid hjf
      clear hok hcap hkid hcells hrow hjf
      go_wp2_with (fail)
      refine (HN.out (tget (flatT t) j).h q _ c2 _ HOK.out HCAP.out).mono ?_
      rintro e w2 ⟨rfl, hb2⟩
      have HW2 := Lib.hid (below_then HW.out hb2 HW.out.size)
      clear hb2 c0 c1 c2' c3 c4 c5 c6 c7
      have hd : nodeB (tget (flatT t) j).h (tget (flatT t) j).ks.length = nodeOk (tget (flatT t) j) := rfl
      rw [hd]
      clear hd
      cases ho : nodeOk (tget (flatT t) j)
      · have hno := ok_no HJ.out ho
        have HNO := Lib.hid hno
        clear hno ho
        go_wp2
        go_ret
        exact ⟨ret_bool (by rw [HR.out, HNO.out]), below_then HB1.out HW2.out HB1.out.size⟩
      · have HYES := Lib.hid ho
        clear ho
        go_wp2
        go_roundw
        case rel =>
          refine ⟨j + 1, by omega, by go_num, Lib.hid (fun i hi => ?_), HW2⟩
          by_cases hij : i = j
          · rw [hij]; exact HYES.out
          · exact HA2.out i (by omega)
        case measure => simp [intOf]; omega
    · obtain rfl : j = n := by omega
      have hyes := ok_yes (t := t) (fun i hi => HA2.out i (by rw [HFLEN.out] at hi; exact hi))
      have HYES := Lib.hid hyes
      clear hyes
      go_wp2
      go_ret
      exact ⟨ret_bool (by rw [HR.out, HYES.out]), below_then HB1.out HW.out HB1.out.size⟩
end Term
end Go.Proofs.YtolpdhkgkjnbfaaGreatDoor
namespace Go.Proofs.YtolpdhkgkjnbfaaGreatDoor
open Go.RowKit
set_option linter.unusedVariables false
set_option linter.unusedSimpArgs false
namespace Aterm
open Effect (RdI nget nget_at nget_mem ret_bool ret_i64 lt_of_block heap_alloc_new ofA)
open Rt (box_new box_at below_then)
open Words (nameB exnB)

/-- Nothing but a name, a place and kids. -/
def bareB (h : Term.Hd) : Bool := decide (h.op = 0) && decide (h.n = 0) && decide (h.arg.size = 0) && decide (h.exn.size = 0)
theorem head_17 {h : Term.Hd} (hk : h.k = 17) (l : Nat) : headOk h l = (bareB h && decide (h.name.size = 0) && decide (0 ≤ h.pl) && decide (l = 1)) := by
  obtain ⟨k, op, pl, n, nm, ar, ex⟩ := h
  simp only at hk
  subst hk
  unfold headOk likeH likeK bareB Term.nodeB Term.opOk Term.nOk Term.nameF Term.argF Term.exnF Term.fitsB Term.kidsN
  simp only [Bool.and_assoc]
  rw [Bool.eq_iff_iff]
  simp
  constructor
  · intro hh; simp_all; try omega
  · intro hh; simp_all; try omega
theorem head_18 {h : Term.Hd} (hk : h.k = 18) (l : Nat) : headOk h l = (bareB h && nameB h.name && decide (0 ≤ h.pl) && decide (l = 0)) := by
  obtain ⟨k, op, pl, n, nm, ar, ex⟩ := h
  simp only at hk
  subst hk
  unfold headOk likeH likeK bareB Term.nodeB Term.opOk Term.nOk Term.nameF Term.argF Term.exnF Term.fitsB Term.kidsN
  simp only [Bool.and_assoc]
  rw [Bool.eq_iff_iff]
  simp
  constructor
  · intro hh; simp_all; try omega
  · intro hh; simp_all; try omega
theorem head_min {h : Term.Hd} (h17 : h.k ≠ 17) (h18 : h.k ≠ 18) {l m : Nat} (hm : m = min l 4) : Term.nodeB h m = headOk h l := by
  have hl : likeH h = h := by
    unfold likeH likeK
    rw [if_neg h17, if_neg h18]
  by_cases h4 : l ≤ 3
  · have : m = l := by omega
    unfold headOk
    rw [hl, this]
  · rw [head_many (by omega)]
    have := head_many (h := h) (n := m) (by omega)
    unfold headOk at this
    rwa [hl] at this
theorem zero_one : ∀ u ∈ zero8.toList, u.oneCell' = true := by
  intro u hu
  simp [zero8] at hu
  rcases hu with rfl | rfl | rfl | rfl | rfl | rfl | rfl | rfl <;> rfl
theorem zero_news {w : World} {N : Nat} {ty : TypeId} (hN : N = w.heap.size) : ∀ j u, zero8.toList[j]? = some u → (w.alloc (.cells zero8 ty)).cell? ((⟨N, 0, none⟩ : Addr).add j) = some u := by
  intro j u hu
  subst hN
  rw [Addr.add_lit, Nat.zero_add, World.cell?_alloc_mark]
  simpa using hu
theorem isEmpty_yes {s : ByteArray} (h : s.size = 0) : s.toList.isEmpty = true := by
  have : s.toList = [] := by rw [Lib.toList_data]; exact List.length_eq_zero_iff.1 h
  rw [this]; rfl
theorem isEmpty_no {s : ByteArray} (h : ¬ s.size = 0) : s.toList.isEmpty = false := by
  have : s.toList ≠ [] := by rw [Lib.toList_data]; exact fun e => h (by have := congrArg List.length e; simpa using this)
  simpa using this
/-- The boxes of head: what is read, the head, the term that grows. -/
structure HeadAt (w : World) (h : Hd) (v : V) (l : Nat) (j : Nat) (a : Option Addr) (c0 : Nat) (W : World) : Prop where
  below : Below w.heap.size w W
  box : W.heap[w.heap.size]? = some (.cells #[.int .u8 h.h.k, .int .u8 h.h.op, .int .i64 h.h.pl, .int .i64 h.h.n, .string h.h.name, .string h.h.arg, .string h.h.exn, .int .i64 h.rho, .slice v.ra h.rhos.length v.rc, .slice v.ea h.e.length v.ec, .int .u8 h.ty.h.k, .int .i64 h.ty.h.r, .slice v.tea h.ty.h.e.length v.tec, .slice v.tka h.ty.ks.length v.tkc, .int .u8 h.re.h.k, .int .i64 h.re.h.r, .slice v.sea h.re.h.e.length v.sec, .slice v.ska h.re.ks.length v.skc, .slice v.ka l v.kc] 31 (0, 0))
  out : W.heap[w.heap.size + 2]? = some (.cells #[.int .u8 h.h.k, .int .u8 h.h.op, .int .i64 h.h.pl, .int .i64 h.h.n, .string h.h.name, .string h.h.arg, .string h.h.exn, .slice a j c0] 38 (0, 0))
  row : ∃ xs, W.ownsRow (w.heap.size + 3) 38 8 (.slice a j c0) j xs
/-- One more. -/
theorem head_step {w : World} {h : Hd} {v : V} {l j : Nat} {a : Option Addr} {c0 : Nat} {wr w3 : World} {O : Obj} {v3 : Value} {xs ys : List Value} (hA : HeadAt w h v l j a c0 wr) (hown : wr.ownsRow (w.heap.size + 3) 38 8 (.slice a j c0) j xs)
    (hown3 : w3.ownsRow (w.heap.size + 3) 38 8 v3 (j + 1) ys) (hg : (wr.alloc O).grownBy w3 (Value.slice a j c0).ownBlock) :
    (w3.cell? ⟨w.heap.size + 2, 7, none⟩ = some (.slice a j c0) ∧ w3.frozen? ⟨w.heap.size + 2, 7, none⟩ = false) ∧ ∃ a3 c3, v3 = .slice a3 (j + 1) c3 ∧ HeadAt w h v l (j + 1) a3 c3 (w3.setCell ⟨w.heap.size + 2, 7, none⟩ v3) := by
  have hge : ∀ g, (Value.slice a j c0).ownBlock = some g → w.heap.size + 3 ≤ g := fun g hgg => (hown.lt g hgg).1
  have hlo := lt_of_block hA.out
  have hstay : ∀ b, b < w.heap.size + 3 → w3.heap[b]? = wr.heap[b]? := fun b hb => by
    rw [hg.block b (by simp; omega) (fun e => by have := hge b e.symm; omega)]
    exact (box_new (w := wr) O).block b (by omega)
  have hout3 := (hstay (w.heap.size + 2) (by omega)).trans hA.out
  have hoth : ∀ b, b ≠ w.heap.size + 2 → (w3.setCell ⟨w.heap.size + 2, 7, none⟩ v3).heap[b]? = w3.heap[b]? := fun b hb => Below.heap_setCell _ _ _ _ hb
  obtain ⟨a3, c3, rfl, _, _⟩ := own_cap hown3
  have hb1 : Below w.heap.size w (wr.alloc O) := below_then hA.below (box_new _) hA.below.size
  refine ⟨⟨by simp [World.cell?, hout3], by simp [World.frozen?, hout3]⟩, a3, c3, rfl, (hb1.grown hg hb1.size (fun g hgg => by have := hge g hgg; omega)).setCell (p := ⟨w.heap.size + 2, 7, none⟩) (by show w.heap.size ≤ w.heap.size + 2; omega) _, ?_, ?_, ys, ownsRow_setCell_below hown3 (a := ⟨w.heap.size + 2, 7, none⟩) (by show w.heap.size + 2 < w.heap.size + 3; omega) _⟩
  · exact (hoth _ (by omega)).trans ((hstay _ (by omega)).trans hA.box)
  · simp [World.setCell, Array.getElem?_modify, hout3]
set_option maxRecDepth 100000 in
set_option maxHeartbeats 6400000 in
theorem head_walk (t : AT) (h : Hd) (v : V) (l : Nat) (w : World) (hT : AtIs w h v l t) :
    Calls Tryz.prog 40 #[.agg #[.int .u8 h.h.k, .int .u8 h.h.op, .int .i64 h.h.pl, .int .i64 h.h.n, .string h.h.name, .string h.h.arg, .string h.h.exn, .int .i64 h.rho, .slice v.ra h.rhos.length v.rc, .slice v.ea h.e.length v.ec, .int .u8 h.ty.h.k, .int .i64 h.ty.h.r, .slice v.tea h.ty.h.e.length v.tec, .slice v.tka h.ty.ks.length v.tkc, .int .u8 h.re.h.k, .int .i64 h.re.h.r, .slice v.sea h.re.h.e.length v.sec, .slice v.ska h.re.ks.length v.skc, .slice v.ka l v.kc]] w fun e w' => e = .returned (.bool (headOk h.h l)) ∧ Below w.heap.size w w' := by
  have hlc := (capA hT).1
  have hok := hT.ok.hd
  have hname := fun W => Words.refName_walk h.h.name W hok.name
  have HNAME := Lib.hid hname; have HOK := Lib.hid hok
  clear hname hok hT
  go_enter Tryz.func40, Tryz.ntmps40
  go_upto_region 1 with (fail)
  obtain ⟨W0, hW0⟩ : ∃ W0, W0 = w.alloc (.cells #[.int .u8 h.h.k, .int .u8 h.h.op, .int .i64 h.h.pl, .int .i64 h.h.n, .string h.h.name, .string h.h.arg, .string h.h.exn, .int .i64 h.rho, .slice v.ra h.rhos.length v.rc, .slice v.ea h.e.length v.ec, .int .u8 h.ty.h.k, .int .i64 h.ty.h.r, .slice v.tea h.ty.h.e.length v.tec, .slice v.tka h.ty.ks.length v.tkc, .int .u8 h.re.h.k, .int .i64 h.re.h.r, .slice v.sea h.re.h.e.length v.sec, .slice v.ska h.re.ks.length v.skc, .slice v.ka l v.kc] 31) := ⟨_, rfl⟩
  have hbk : W0.heap[w.heap.size]? = some (.cells #[.int .u8 h.h.k, .int .u8 h.h.op, .int .i64 h.h.pl, .int .i64 h.h.n, .string h.h.name, .string h.h.arg, .string h.h.exn, .int .i64 h.rho, .slice v.ra h.rhos.length v.rc, .slice v.ea h.e.length v.ec, .int .u8 h.ty.h.k, .int .i64 h.ty.h.r, .slice v.tea h.ty.h.e.length v.tec, .slice v.tka h.ty.ks.length v.tkc, .int .u8 h.re.h.k, .int .i64 h.re.h.r, .slice v.sea h.re.h.e.length v.sec, .slice v.ska h.re.ks.length v.skc, .slice v.ka l v.kc] 31 (0, 0)) := by rw [hW0]; exact heap_alloc_new _ _
  have hsz : W0.heap.size = w.heap.size + 1 := by rw [hW0]; simp
  have hb0 : Below w.heap.size w W0 := by rw [hW0]; exact box_new _
  rw [← hW0]
  clear hW0
  obtain ⟨b0, b1, b2, b3, b4, b5, b6, b7, b8, b9, b10, b11, b12, b13, b14, b15, b16, b17, b18⟩ := box_blk hbk
  have HB0 := Lib.hid hb0; have HBK := Lib.hid hbk; have HSZ := Lib.hid hsz
  clear hb0 hbk b7 b8 b9 b10 b11 b12 b13 b14 b15 b16 b17
  go_upto_region 2 with (fail)
  have hn1 := heap_alloc_new W0 (.cells #[.int .u8 h.h.k, .int .u8 h.h.op, .int .i64 h.h.pl, .int .i64 h.h.n, .string h.h.name, .string h.h.arg, .string h.h.exn] 23)
  have hb1 := box_new (w := W0) (.cells #[.int .u8 h.h.k, .int .u8 h.h.op, .int .i64 h.h.pl, .int .i64 h.h.n, .string h.h.name, .string h.h.arg, .string h.h.exn] 23)
  have hs1 : (W0.alloc (.cells #[.int .u8 h.h.k, .int .u8 h.h.op, .int .i64 h.h.pl, .int .i64 h.h.n, .string h.h.name, .string h.h.arg, .string h.h.exn] 23)).heap.size = w.heap.size + 2 := by simp [hsz]
  generalize hW1 : W0.alloc (.cells #[.int .u8 h.h.k, .int .u8 h.h.op, .int .i64 h.h.pl, .int .i64 h.h.n, .string h.h.name, .string h.h.arg, .string h.h.exn] 23) = W1 at hn1 hb1 hs1 ⊢
  clear hW1
  rw [hsz] at hn1
  try rw [hsz]
  have c0 : W1.cell? ⟨w.heap.size + 1, 0, none⟩ = some (.int .u8 h.h.k) := by simp [World.cell?, hn1]
  have c1 : W1.cell? ⟨w.heap.size + 1, 1, none⟩ = some (.int .u8 h.h.op) := by simp [World.cell?, hn1]
  have c2 : W1.cell? ⟨w.heap.size + 1, 2, none⟩ = some (.int .i64 h.h.pl) := by simp [World.cell?, hn1]
  have c3 : W1.cell? ⟨w.heap.size + 1, 3, none⟩ = some (.int .i64 h.h.n) := by simp [World.cell?, hn1]
  have c4 : W1.cell? ⟨w.heap.size + 1, 4, none⟩ = some (.string h.h.name) := by simp [World.cell?, hn1]
  have c5 : W1.cell? ⟨w.heap.size + 1, 5, none⟩ = some (.string h.h.arg) := by simp [World.cell?, hn1]
  have c6 : W1.cell? ⟨w.heap.size + 1, 6, none⟩ = some (.string h.h.exn) := by simp [World.cell?, hn1]
  have hbk1 := (hb1.block _ (lt_of_block HBK.out)).trans HBK.out
  have HBK1 := Lib.hid hbk1; have HB1 := Lib.hid (below_then HB0.out hb1 HB0.out.size); have HS1 := Lib.hid hs1
  have HNX := Lib.hid hn1
  clear b0 b1 b2 b3 b4 b5 b6 b18 hn1 hb1 hs1 hsz
  obtain ⟨b0, b1, b2, b3, b4, b5, b6, b7, b8, b9, b10, b11, b12, b13, b14, b15, b16, b17, b18⟩ := box_blk hbk1
  clear hbk1 b1 b2 b3 b4 b5 b6 b7 b8 b9 b10 b11 b12 b13 b14 b15 b16 b17
  have hbare : ((h.h.op == 0) = false ∧ bareB h.h = false) ∨ ((h.h.op == 0) = true ∧ (h.h.n == 0) = false ∧ bareB h.h = false) ∨ ((h.h.op == 0) = true ∧ (h.h.n == 0) = true ∧ h.h.arg.toList.isEmpty = false ∧ bareB h.h = false) ∨ ((h.h.op == 0) = true ∧ (h.h.n == 0) = true ∧ h.h.arg.toList.isEmpty = true ∧ h.h.exn.toList.isEmpty = false ∧ bareB h.h = false) ∨ ((h.h.op == 0) = true ∧ (h.h.n == 0) = true ∧ h.h.arg.toList.isEmpty = true ∧ h.h.exn.toList.isEmpty = true ∧ bareB h.h = true) := by
    unfold bareB
    by_cases e1 : h.h.op = 0
    · by_cases e2 : h.h.n = 0
      · by_cases e3 : h.h.arg.size = 0
        · by_cases e4 : h.h.exn.size = 0
          · exact .inr (.inr (.inr (.inr ⟨by simpa using e1, by simpa using e2, isEmpty_yes e3, isEmpty_yes e4, by rw [e1, e2, e3, e4]; rfl⟩)))
          · exact .inr (.inr (.inr (.inl ⟨by simpa using e1, by simpa using e2, isEmpty_yes e3, isEmpty_no e4, by rw [decide_eq_false e4]; simp⟩)))
        · exact .inr (.inr (.inl ⟨by simpa using e1, by simpa using e2, isEmpty_no e3, by rw [decide_eq_false e3]; simp⟩))
      · exact .inr (.inl ⟨by simpa using e1, by simpa using e2, by rw [decide_eq_false e2]; simp⟩)
    · exact .inl ⟨by simpa using e1, by rw [decide_eq_false e1]; simp⟩
  go_cut [4] (fun s4 wx => wx = W1 ∧ s4 = .bool (bareB h.h))
  case first =>
    clear c0 c2 c4 b0 b18
    rcases hbare with ⟨f1, hb⟩ | ⟨f1, f2, hb⟩ | ⟨f1, f2, f3, hb⟩ | ⟨f1, f2, f3, f4, hb⟩ | ⟨f1, f2, f3, f4, hb⟩
    all_goals
      have HBE := Lib.hid hb
      clear hb
      go_wp2_with (fail)
      go_meet
      exact ⟨rfl, by rw [HBE.out]⟩
  case rest =>
    obtain ⟨rfl, rfl⟩ := hcut
    clear hbare c1 c3 c5 c6
    by_cases h17 : h.h.k = 17
    · have hr := head_17 h17 l
      have e17 : (h.h.k == 17) = true := by simpa using h17
      have HR := Lib.hid hr
      clear hr h17
      have hl1 : decide (l = 1) = ((l : Int) == 1) := by
        by_cases e : l = 1
        · rw [e]; rfl
        · rw [decide_eq_false e]; symm; rw [beq_eq_false_iff_ne]; omega
      have hnm : decide (h.h.name.size = 0) = h.h.name.toList.isEmpty := by
        by_cases e : h.h.name.size = 0
        · rw [isEmpty_yes e, decide_eq_true e]
        · rw [isEmpty_no e, decide_eq_false e]
      have HL1 := Lib.hid hl1; have HNM := Lib.hid hnm
      clear hl1 hnm
      cases hb : bareB h.h
      · have HR2 := Lib.hid (show headOk h.h l = false by rw [HR.out, hb]; rfl)
        clear hb
        go_wp2_with (fail)
        go_ret
        exact ⟨ret_bool HR2.out.symm, HB1.out⟩
      cases hn : h.h.name.toList.isEmpty
      · have HR2 := Lib.hid (show headOk h.h l = false by rw [HR.out, hb, HNM.out, hn]; rfl)
        clear hb
        go_wp2_with (fail)
        go_ret
        exact ⟨ret_bool HR2.out.symm, HB1.out⟩
      by_cases hp : 0 ≤ h.h.pl
      · have hd : decide (0 ≤ h.h.pl) = true := decide_eq_true hp
        have HR2 := Lib.hid (show headOk h.h l = ((l : Int) == 1) by rw [HR.out, hb, HNM.out, hn, hd, HL1.out]; rfl)
        clear hb hp
        go_wp2_with (fail)
        go_ret
        exact ⟨ret_bool HR2.out.symm, HB1.out⟩
      · have hd : decide (0 ≤ h.h.pl) = false := decide_eq_false hp
        have HR2 := Lib.hid (show headOk h.h l = false by rw [HR.out, hb, HNM.out, hn, hd]; rfl)
        clear hb hp
        go_wp2_with (fail)
        go_ret
        exact ⟨ret_bool HR2.out.symm, HB1.out⟩
    have e17 : (h.h.k == 17) = false := by simpa using h17
    by_cases h18 : h.h.k = 18
    · have hr := head_18 h18 l
      have e18 : (h.h.k == 18) = true := by simpa using h18
      have hl0 : decide (l = 0) = ((l : Int) == 0) := by
        by_cases e : l = 0
        · rw [e]; rfl
        · rw [decide_eq_false e]; symm; rw [beq_eq_false_iff_ne]; omega
      have HR := Lib.hid hr; have HL0 := Lib.hid hl0
      clear hr h17 h18 hl0
      cases hb : bareB h.h
      · have HR2 := Lib.hid (show headOk h.h l = false by rw [HR.out, hb]; rfl)
        clear hb
        go_wp2_with (fail)
        go_ret
        exact ⟨ret_bool HR2.out.symm, HB1.out⟩
      have HBB := Lib.hid hb
      clear hb
      go_wp2_with (fail)
      refine (HNAME.out wc).mono ?_
      rintro e w2 ⟨rfl, hb2⟩
      have d2 : w2.cell? ⟨w.heap.size + 1, 2, none⟩ = some (.int .i64 h.h.pl) := (hb2.cell (p := ⟨w.heap.size + 1, 2, none⟩) (World.block_lt_of_cell? _ _ c2)).trans c2
      have d18 : w2.cell? ⟨w.heap.size, 18, none⟩ = some (.slice v.ka l v.kc) := (hb2.cell (p := ⟨w.heap.size, 18, none⟩) (World.block_lt_of_cell? _ _ b18)).trans b18
      have HB2 := Lib.hid (below_then HB1.out hb2 HB1.out.size)
      clear hb2 c0 c2 c4 b0 b18
      cases hn : nameB h.h.name
      · have HR2 := Lib.hid (show headOk h.h l = false by rw [HR.out, HBB.out, hn]; rfl)
        go_wp2_with (fail)
        go_ret
        exact ⟨ret_bool HR2.out.symm, HB2.out⟩
      by_cases hp : 0 ≤ h.h.pl
      · have hd : decide (0 ≤ h.h.pl) = true := decide_eq_true hp
        have HR2 := Lib.hid (show headOk h.h l = ((l : Int) == 0) by rw [HR.out, HBB.out, hn, hd, HL0.out]; rfl)
        clear hp
        go_wp2_with (fail)
        go_ret
        exact ⟨ret_bool HR2.out.symm, HB2.out⟩
      · have hd : decide (0 ≤ h.h.pl) = false := decide_eq_false hp
        have HR2 := Lib.hid (show headOk h.h l = false by rw [HR.out, HBB.out, hn, hd]; rfl)
        clear hp
        go_wp2_with (fail)
        go_ret
        exact ⟨ret_bool HR2.out.symm, HB2.out⟩
    have e18 : (h.h.k == 18) = false := by simpa using h18
    have HMIN := Lib.hid (fun m (hm : m = min l 4) => head_min h17 h18 hm)
    have c1 : wc.cell? ⟨w.heap.size + 1, 1, none⟩ = some (.int .u8 h.h.op) := by simp [World.cell?, HNX.out]
    have c3 : wc.cell? ⟨w.heap.size + 1, 3, none⟩ = some (.int .i64 h.h.n) := by simp [World.cell?, HNX.out]
    have c5 : wc.cell? ⟨w.heap.size + 1, 5, none⟩ = some (.string h.h.arg) := by simp [World.cell?, HNX.out]
    have c6 : wc.cell? ⟨w.heap.size + 1, 6, none⟩ = some (.string h.h.exn) := by simp [World.cell?, HNX.out]
    clear h17 h18
    go_upto_region 8 with (fail)
    have hn2 := heap_alloc_new wc (.cells #[.int .u8 h.h.k, .int .u8 h.h.op, .int .i64 h.h.pl, .int .i64 h.h.n, .string h.h.name, .string h.h.arg, .string h.h.exn, .slice none 0 0] 38)
    have hb2 := box_new (w := wc) (.cells #[.int .u8 h.h.k, .int .u8 h.h.op, .int .i64 h.h.pl, .int .i64 h.h.n, .string h.h.name, .string h.h.arg, .string h.h.exn, .slice none 0 0] 38)
    rw [HS1.out] at hn2
    have hA0 : HeadAt w h v l 0 none 0 (wc.alloc (.cells #[.int .u8 h.h.k, .int .u8 h.h.op, .int .i64 h.h.pl, .int .i64 h.h.n, .string h.h.name, .string h.h.arg, .string h.h.exn, .slice none 0 0] 38)) := ⟨below_then HB1.out hb2 HB1.out.size, (hb2.block _ (lt_of_block HBK1.out)).trans HBK1.out, hn2, ⟨[], World.ownsRow_nil _ _ _ _⟩⟩
    have HA0 := Lib.hid hA0
    rw [HS1.out]
    generalize wc.alloc (.cells #[.int .u8 h.h.k, .int .u8 h.h.op, .int .i64 h.h.pl, .int .i64 h.h.n, .string h.h.name, .string h.h.arg, .string h.h.exn, .slice none 0 0] 38) = W3 at HA0 ⊢
    clear hn2 hb2 hA0 c0 c1 c2 c3 c4 c5 c6 b0 b18
    obtain ⟨i0, hi0, hz0, hz1, hz2⟩ := info_parts Term.infoTerm
    have HI0 := Lib.hid hi0; have HZ0 := Lib.hid hz0; have HZ1 := Lib.hid hz1; have HZ2 := Lib.hid hz2
    clear hi0 hz0 hz1 hz2
    have hnode := fun (m : Nat) (a : Option Addr) (c : Nat) (W : World) (hm : m ≤ 4) => Term.refNode_walk h.h a m c W HOK.out (by unfold maxLen; omega)
    have HNODE := Lib.hid hnode
    clear hnode
    go_wp2_with (fail)
    go_loopw [6] (fun i wr => ∃ (j : Nat) (a : Option Addr) (c0 : Nat), j ≤ l ∧ j ≤ 4 ∧ i = .int .i64 j ∧ Hid (HeadAt w h v l j a c0 wr)) (fun i _ => 4 - (intOf i).toNat)
    case atStart => exact ⟨0, none, 0, Nat.zero_le _, by omega, rfl, HA0⟩
    case round =>
      obtain ⟨j, a, c0, hjl, hj4, rfl, HA⟩ := hrel
      obtain ⟨b0, b1, b2, b3, b4, b5, b6, b7, b8, b9, b10, b11, b12, b13, b14, b15, b16, b17, b18⟩ := box_blk HA.out.box
      obtain ⟨⟨o0, o1, o2, o3, o4, o5, o6, o7⟩, f0, f1, f2, f3, f4, f5, f6, f7⟩ := cells8t HA.out.out
      clear b0 b1 b2 b3 b4 b5 b6 b7 b8 b9 b10 b11 b12 b13 b14 b15 b16 b17 f0 f1 f2 f3 f4 f5 f6
      by_cases hgo : j < l ∧ j < 4
      · have g1 : decide ((j : Int) < (l : Int)) = true := decide_eq_true (by omega)
        have g2 : decide ((j : Int) < 4) = true := decide_eq_true (by omega)
        have gj : (j : Int) < 4 := by omega
        have gl : j < l := hgo.1
        obtain ⟨xs, hown⟩ := HA.out.row
        have hlo := lt_of_block HA.out.out
        have HOWN := Lib.hid hown; have HLO := Lib.hid hlo
        clear hown hlo o0 o1 o2 o3 o4 o5 o6
        go_wp2_with (at_builtin; refine wpList_append_own _ rfl (.tmp 83) (.tmp 85) 36 rfl (w.heap.size + 3) 38 i0 _ 8 96 Tryz.underlying36 HI0.out HZ0.out HZ1.out HZ2.out rfl (by omega) (.slice a j c0) j xs rfl (own_below HOWN.out (box_new _)) ⟨wr.heap.size, 0, none⟩ 1 1 zero8.toList rfl rfl (zero_news rfl) zero_one (by unfold maxLen; omega) (by omega) (by have := HLO.out; simp; omega) ?_; intro v3 w3 hown3 hgrow3 hnil3; obtain ⟨⟨s0, s1⟩, a3, c3, rfl, hh⟩ := head_step HA.out HOWN.out hown3 hgrow3; have HH := Lib.hid hh; clear hown3 hgrow3 hnil3 hh)
        go_roundw
        · exact ⟨j + 1, a3, c3, gl, by omega, by simp, HH⟩
        · simp [intOf]
          omega
      · have hj : j = min l 4 := by omega
        have hm4 : j ≤ 4 := hj4
        have HM := Lib.hid (HMIN.out j hj)
        by_cases gl : j < l
        · have g1 : decide ((j : Int) < (l : Int)) = true := decide_eq_true (by omega)
          have g2 : decide ((j : Int) < 4) = false := decide_eq_false (by omega)
          go_wp2_with (fail)
          refine (HNODE.out _ a c0 wr (by omega)).mono ?_
          rintro e w2 ⟨rfl, hb2⟩
          have HB2 := Lib.hid (below_then HA.out.below hb2 HA.out.below.size)
          rw [HMIN.out _ rfl]
          go_wp2_with (fail)
          go_ret
          exact ⟨rfl, HB2.out⟩
        · have g1 : decide ((j : Int) < (l : Int)) = false := decide_eq_false (by omega)
          go_wp2_with (fail)
          refine (HNODE.out _ a c0 wr (by omega)).mono ?_
          rintro e w2 ⟨rfl, hb2⟩
          have HB2 := Lib.hid (below_then HA.out.below hb2 HA.out.below.size)
          rw [HMIN.out _ rfl]
          go_wp2_with (fail)
          go_ret
          exact ⟨rfl, HB2.out⟩
end Aterm
end Go.Proofs.YtolpdhkgkjnbfaaGreatDoor
namespace Go.Proofs.YtolpdhkgkjnbfaaGreatDoor
open Go.RowKit
set_option linter.unusedVariables false
set_option linter.unusedSimpArgs false
namespace Aterm
open Effect (RdI nget nget_at nget_mem ret_bool ret_i64 lt_of_block heap_alloc_new ofA)
open Rt (box_new box_at below_then)

theorem from1_walk (N : Nat) (x least : Int) (W : World) (hc : W.cell? ⟨N, 0, none⟩ = some (.int .i64 least)) :
    Calls Tryz.prog 77 #[.int .i64 x, .pointer (some ⟨N, 0, none⟩)] W fun e W' => e = .returned (.bool (decide (x < least))) ∧ W' = W := by
  go_enter Tryz.func77, Tryz.ntmps77
  go_wp2
  go_ret
  exact ⟨rfl, rfl⟩
set_option maxRecDepth 10000 in
set_option maxHeartbeats 3200000 in
theorem indexFrom_walk {n c : Nat} {a : Option Addr} {l : List Int} {w : World} (h : RdI w n a l) (hn : n ≤ 100000) (N : Nat) (least : Int) (hc : w.cell? ⟨N, 0, none⟩ = some (.int .i64 least)) :
    Calls Tryz.prog 95 #[.slice a n c, .func (.func 77) #[] #[.pointer (some ⟨N, 0, none⟩)]] w fun e w' => ∃ i : Int, e = .returned (.int .i64 i) ∧ (0 ≤ i ↔ ∃ x ∈ l, x < least) ∧ -1 ≤ i ∧ i ≤ 100000 ∧ w' = w := by
  have H := Lib.hid h; have HC := Lib.hid hc
  clear h hc
  go_enter Tryz.func95, Tryz.ntmps95
  go_wp2_with (fail)
  go_loopw [5, 8] (fun _ i wr => ∃ j : Nat, j ≤ n ∧ i = .int .i64 (j : Int) ∧ Hid (wr = w) ∧ Hid (∀ i, i < j → least ≤ nget l i)) (fun _ i _ => n - (intOf i).toNat)
  case atStart => exact ⟨0, Nat.zero_le _, rfl, Lib.hid rfl, Lib.hid (fun i hi => absurd hi (Nat.not_lt_zero _))⟩
  case round =>
    obtain ⟨j, hj, rfl, HW, HA⟩ := hrel
    by_cases hlt : j < n
    · have hjl : j < l.length := by rw [H.out.len]; exact hlt
      obtain ⟨b1, o1, rfl, e0⟩ := H.out.get j hjl
      rw [← HW.out] at e0
      have hf := from1_walk N (nget l j) least wr (by rw [HW.out]; exact HC.out)
      have HF := Lib.hid hf; have HJL := Lib.hid hjl
      clear hf hjl
      go_wp2_with (fail)
      refine HF.out.mono ?_
      rintro e wx ⟨rfl, hw⟩
      obtain rfl := hw.symm
      clear hw
      by_cases hx : nget l j < least
      · rw [decide_eq_true hx]
        have HX := Lib.hid hx
        clear hx
        go_wp2_with (fail)
        go_ret
        exact ⟨j, rfl, ⟨fun _ => ⟨_, nget_mem HJL.out, HX.out⟩, fun _ => by omega⟩, by omega, by omega, HW.out⟩
      · rw [decide_eq_false hx]
        have HX := Lib.hid hx
        clear hx
        go_wp2_with (fail)
        go_roundw
        case rel => exact ⟨j + 1, by omega, by go_num, HW, Lib.hid fun i hi => by
            by_cases e : i = j
            · rw [e]; have := HX.out; omega
            · exact HA.out i (by omega)⟩
        case measure => simp [intOf]; omega
    · obtain rfl : j = n := by omega
      go_wp2_with (fail)
      go_ret
      refine ⟨-1, rfl, ⟨fun h => by omega, ?_⟩, by omega, by omega, HW.out⟩
      rintro ⟨x, hx, hl⟩
      obtain ⟨i, hi, e⟩ := List.mem_iff_getElem.1 hx
      have h1 := HA.out i (by rw [← H.out.len]; exact hi)
      have := nget_at hi
      rw [List.getElem?_eq_getElem hi, e] at this
      rw [← Option.some.inj this] at h1
      omega
theorem containsFrom_walk {n c : Nat} {a : Option Addr} {l : List Int} {w : World} (h : RdI w n a l) (hn : n ≤ 100000) (N : Nat) (least : Int) (hc : w.cell? ⟨N, 0, none⟩ = some (.int .i64 least)) :
    Calls Tryz.prog 76 #[.slice a n c, .func (.func 77) #[] #[.pointer (some ⟨N, 0, none⟩)]] w fun e w' => e = .returned (.bool (decide (∃ x ∈ l, x < least))) ∧ w' = w := by
  have H := Lib.hid (indexFrom_walk (c := c) h hn N least hc)
  clear h hc
  go_enter Tryz.func76, Tryz.ntmps76
  go_wp2_with (fail)
  refine H.out.mono ?_
  rintro e wx ⟨i, rfl, hi, hi1, hi2, hw⟩
  obtain rfl := hw.symm
  clear hw
  have hd : decide (∃ x ∈ l, x < least) = decide (0 ≤ i) := decide_eq_decide.2 hi.symm
  have HD := Lib.hid hd
  clear hd hi
  go_wp2_with (fail)
  go_ret
  exact ⟨ret_bool HD.out.symm, rfl⟩
theorem from_walk {n c : Nat} {a : Option Addr} {l : List Int} {w : World} (h : RdI w n a l) (hn : n ≤ 100000) (least : Int) :
    Calls Tryz.prog 59 #[.int .i64 least, .slice a n c] w fun e w' => e = .returned (.bool (decide (∀ x ∈ l, least ≤ x))) ∧ Below w.heap.size w w' := by
  have hb : Below w.heap.size w (w.alloc (.cells #[.int .i64 least] 3)) := box_new _
  have H := Lib.hid (containsFrom_walk (c := c) (h.below hb) hn w.heap.size least (box_at (Below.refl _ _) 0 rfl)); have HB := Lib.hid hb
  have hd : decide (∀ x ∈ l, least ≤ x) = !decide (∃ x ∈ l, x < least) := by
    by_cases hx : ∃ x ∈ l, x < least
    · rw [decide_eq_true hx, decide_eq_false]
      · rfl
      · intro ha
        obtain ⟨x, h1, h2⟩ := hx
        have := ha x h1
        omega
    · rw [decide_eq_false hx, decide_eq_true]
      · rfl
      · intro x h1
        by_cases hl : x < least
        · exact absurd ⟨x, h1, hl⟩ hx
        · omega
  have HD := Lib.hid hd
  clear h hb hd
  go_enter Tryz.func59, Tryz.ntmps59
  go_wp2_with (fail)
  refine H.out.mono ?_
  rintro e wx ⟨rfl, hw⟩
  obtain rfl := hw.symm
  clear hw
  go_wp2_with (fail)
  go_ret
  exact ⟨ret_bool HD.out.symm, HB.out⟩
end Aterm
end Go.Proofs.YtolpdhkgkjnbfaaGreatDoor
