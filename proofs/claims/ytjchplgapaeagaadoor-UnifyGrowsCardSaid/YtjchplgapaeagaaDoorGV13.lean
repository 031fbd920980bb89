/-How many nodes a type's sense has: by the sizes of its variables' senses. The library's slices.Backward over ints: what is handed each round, and the iterator's contract. Unification: the order itself. A type's variables are handed on, each in its order, to what the function (*enclave/unify.Book).within$4 does. (Written by wip/tools/uneach.py.) -/
import Derived.Test.YtjchplgapaeagaaDoorGV12
import Derived.RangeFuncNested
import Derived.RangeFuncBound
import Derived.RangeFuncCalls
import Derived.RangeFuncLeaves
import Derived.WalkKit
import Derived.OwnWalkIn
import Derived.TacticsInMore
import Derived.LoopNIn
import Derived.LoopIn
import Derived.Test.YtjchplgapaeagaaDoorGV11
import Derived.LoopTactic
namespace Go.Proofs.YtjchplgapaeagaaDoor
open Go.RowKit
set_option linter.unusedVariables false
namespace Types

/-- The variables' part. -/
def vsum (θ : Nat → Ty) (l : List Nat) : Nat := (l.map fun v => wt (θ v) - 1).sum
theorem vsum_nil (θ : Nat → Ty) : vsum θ [] = 0 := rfl
theorem vsum_cons (θ : Nat → Ty) (v : Nat) (l : List Nat) : vsum θ (v :: l) = (wt (θ v) - 1) + vsum θ l := by unfold vsum; rw [List.map_cons, List.sum_cons]
theorem vsum_app (θ : Nat → Ty) (a b : List Nat) : vsum θ (a ++ b) = vsum θ a + vsum θ b := by unfold vsum; rw [List.map_append, List.sum_append]
theorem varsK_cons' (t : Ty) (ts : List Ty) : varsK (t :: ts) = varsT t ++ varsK ts := by rw [varsK_map, varsK_map, List.flatMap_cons]
theorem wts_inst {θ : Nat → Ty} : ∀ ts : List Ty, (∀ u ∈ ts, wt (inst θ u) = wt u + vsum θ (varsT u)) → wts (ts.map (inst θ)) = wts ts + vsum θ (varsK ts)
  | [], _ => by rw [List.map_nil, wts_nil, varsK_nil]; rfl
  | t :: ts, h => by
    have h1 := h t (by simp)
    have h2 := wts_inst ts fun u hu => h u (by simp [hu])
    rw [List.map_cons, wts_cons, wts_cons, varsK_cons', vsum_app]
    omega
/-- A sense's nodes: the type's own, and what the variables' senses have more. -/
theorem wt_inst {θ : Nat → Ty} : ∀ t, mayT t = true → wt (inst θ t) = wt t + vsum θ (varsT t) := by
  refine ty_rec fun t ih hm => ?_
  by_cases hk : t.h.k = 5
  · rw [is_var hm hk, inst_var, vars_var, vsum_cons, vsum_nil]
    have := wt_pos (θ t.h.v.toNat)
    have h1 : wt (tyV t.h.v.toNat) = 1 := by rw [wt_ks]; show wts [] + 1 = 1; rw [wts_nil]
    omega
  · have h1 := wts_inst (θ := θ) t.ks fun u hu => ih u hu (may_mem hm hu)
    rw [wt_ks (inst θ t), wt_ks t, (inst_head hk).2, h1, varsT_eq, if_neg hk, List.nil_append]
    omega
/-- The count down. -/
theorem left_fold {θ : Nat → Ty} {nm : Nat → Nat} {sz : Nat → Int} : ∀ (vs : List Nat) (a : Int), a ≤ 9223372036854775807 → (∀ v ∈ vs, sz (nm v) = (wt (θ v) : Int) ∧ wt (θ v) ≤ 9223372036854775807) →
    (0 ≤ a - (vsum θ vs : Int) → (vs.map fun v => ((v : Nat) : Int)).foldl (leftS nm sz) a = a - (vsum θ vs : Int)) ∧ (a - (vsum θ vs : Int) < 0 → (vs.map fun v => ((v : Nat) : Int)).foldl (leftS nm sz) a < 0)
  | [], a, _, _ => by
    rw [vsum_nil]
    exact ⟨fun _ => by show a = _; omega, fun h => by show a < 0; omega⟩
  | v :: vs, a, ha, h => by
    obtain ⟨h1, h4⟩ := h v (by simp)
    have h3 := wt_pos (θ v)
    have e : leftS nm sz a (v : Int) = if 0 ≤ a then a - ((wt (θ v) : Int) - 1) else a := by
      unfold leftS
      rw [Int.toNat_natCast, h1]
      split
      · rw [IntWalk.i64_in ((wt (θ v) : Int) - 1) (by omega), IntWalk.i64_in _ (by omega)]
      · rfl
    have h2 := left_fold vs (leftS nm sz a (v : Int)) (by rw [e]; split <;> omega) fun u hu => h u (by simp [hu])
    rw [vsum_cons, List.map_cons, List.foldl_cons]
    rw [e] at h2 ⊢
    split at h2
    · rename_i ha
      rw [if_pos ha]
      exact ⟨fun h => by rw [h2.1 (by omega)]; omega, fun h => h2.2 (by omega)⟩
    · rename_i ha
      rw [if_neg ha]
      exact ⟨fun h => by omega, fun h => h2.2 (by omega)⟩
/-- What is left of so many. -/
theorem left_fits {θ : Nat → Ty} {nm : Nat → Nat} {sz : Nat → Int} {t : Ty} (hm : mayT t = true) (most : Int) (hmo : most ≤ 9223372036854775807) (h : ∀ v ∈ varsT t, sz (nm v) = (wt (θ v) : Int) ∧ wt (θ v) ≤ 9223372036854775807) :
    ((wt (inst θ t) : Int) ≤ most → ((varsT t).map fun v => ((v : Nat) : Int)).foldl (leftS nm sz) (most - (wt t : Nat)) = most - (wt (inst θ t) : Int)) ∧ (most < (wt (inst θ t) : Int) → ((varsT t).map fun v => ((v : Nat) : Int)).foldl (leftS nm sz) (most - (wt t : Nat)) < 0) := by
  have h1 := left_fold (varsT t) (most - (wt t : Nat)) (by omega) h
  have h2 := wt_inst (θ := θ) t hm
  exact ⟨fun h => by rw [h1.1 (by omega)]; omega, fun h => h1.2 (by omega)⟩
/-- A type that is no variable has more nodes than places of variables. -/
theorem vars_fewK : ∀ ts : List Ty, (∀ u ∈ ts, (varsT u).length ≤ wt u) → (varsK ts).length ≤ wts ts
  | [], _ => by rw [varsK_nil]; simp
  | t :: ts, h => by
    have h1 := h t (by simp)
    have h2 := vars_fewK ts fun u hu => h u (by simp [hu])
    rw [varsK_cons', List.length_append, wts_cons]
    omega
theorem vars_few1 : ∀ t, mayT t = true → (varsT t).length ≤ wt t ∧ (t.h.k ≠ 5 → (varsT t).length + 1 ≤ wt t) := by
  refine ty_rec fun t ih hm => ?_
  have h1 := vars_fewK t.ks fun u hu => (ih u hu (may_mem hm hu)).1
  by_cases hk : t.h.k = 5
  · refine ⟨?_, fun h => absurd hk h⟩
    rw [is_var hm hk, vars_var, List.length_singleton]
    exact wt_pos _
  · rw [varsT_eq, if_neg hk, List.nil_append, wt_ks]
    exact ⟨by omega, fun _ => by omega⟩
/-- The sum of the senses themselves. -/
theorem vsum_len {θ : Nat → Ty} : ∀ l : List Nat, vsum θ l + l.length = (l.map fun v => wt (θ v)).sum
  | [] => rfl
  | v :: l => by
    have h1 := vsum_len (θ := θ) l
    have h2 := wt_pos (θ v)
    rw [vsum_cons, List.map_cons, List.sum_cons, List.length_cons]
    omega
theorem flat_len {f : Nat → List Nat} {F : Nat → Nat} : ∀ l : List Nat, (∀ v ∈ l, (f v).length ≤ F v) → (l.flatMap f).length ≤ (l.map F).sum
  | [], _ => Nat.le_refl _
  | v :: l, h => by
    have h1 := h v (by simp)
    have h2 := flat_len l fun u hu => h u (by simp [hu])
    rw [List.flatMap_cons, List.length_append, List.map_cons, List.sum_cons]
    omega
theorem mem_sum : ∀ {l : List Nat} {x : Nat}, x ∈ l → x ≤ l.sum
  | y :: l, x, h => by
    rw [List.sum_cons]
    rcases List.mem_cons.1 h with rfl | h
    · omega
    · have := mem_sum h; omega
section
variable {n : Nat} {nm : Nat → Nat} {st : Nat → Option Ty} {g : Nat → Bool} {r : Nat → Nat}
/-- What a name's sense is made of: so many names, at most. -/
theorem Bo.reach (h : Bo n nm st g r) : ∀ p, nm p = p → p < n → ∃ L : List Nat, p ∈ L ∧ L.length ≤ wt (senB n nm st r p) ∧ (∀ q ∈ L, nm q = q ∧ q < n ∧ wt (senB n nm st r q) ≤ wt (senB n nm st r p)) ∧ ∀ q ∈ L, ∀ c ∈ namesN nm st q, c ∈ L := by
  refine rank_rec r fun p ih hp hn => ?_
  cases hs : st p with
  | none =>
    refine ⟨[p], by simp, wt_pos _, fun q hq => ?_, fun q hq c hc => ?_⟩
    · rw [List.mem_singleton] at hq; subst hq; exact ⟨hp, hn, Nat.le_refl _⟩
    · rw [List.mem_singleton] at hq; subst hq
      unfold namesN at hc
      rw [hs] at hc
      have : varsT (tyO none) = [] := rfl
      rw [this] at hc
      cases hc
  | some t =>
    obtain ⟨-, hm, hk, hv⟩ := h.name p t hs
    have e : senB n nm st r p = inst (senB n nm st r) t := h.isSen.is.2 _ _ hs
    have hnam : namesN nm st p = (varsT t).map nm := by unfold namesN; rw [hs]; rfl
    have each : ∀ x, ∃ L : List Nat, x ∈ varsT t → (nm x ∈ L ∧ L.length ≤ wt (senB n nm st r x) ∧ (∀ q ∈ L, nm q = q ∧ q < n ∧ wt (senB n nm st r q) ≤ wt (senB n nm st r x)) ∧ ∀ q ∈ L, ∀ c ∈ namesN nm st q, c ∈ L) := fun x => by
      by_cases hx : x ∈ varsT t
      · obtain ⟨L, k1, k2, k3, k4⟩ := ih (nm x) (h.ac p t hs x hx) (h.id x) (Nat.lt_of_le_of_lt (h.le x) (hv x hx))
        rw [← h.sen_nm x] at k2 k3
        exact ⟨L, fun _ => ⟨k1, k2, k3, k4⟩⟩
      · exact ⟨[], fun h => absurd h hx⟩
    obtain ⟨f, hf⟩ := Classical.axiomOfChoice each
    refine ⟨p :: (varsT t).flatMap f, by simp, ?_, fun q hq => ?_, fun q hq c hc => ?_⟩
    · have h1 := flat_len (f := f) (F := fun v => wt (senB n nm st r v)) (varsT t) fun x hx => (hf x hx).2.1
      have h2 := vsum_len (θ := senB n nm st r) (varsT t)
      have h3 := wt_inst (θ := senB n nm st r) t hm
      have h4 := (vars_few1 t hm).2 hk
      rw [e, List.length_cons]
      omega
    · rcases List.mem_cons.1 hq with rfl | hq
      · exact ⟨hp, hn, Nat.le_refl _⟩
      · obtain ⟨x, hx, hq⟩ := List.mem_flatMap.1 hq
        obtain ⟨k1, k2, k3⟩ := (hf x hx).2.2.1 q hq
        have := (wt_occ (θ := senB n nm st r) t hm hx).1
        exact ⟨k1, k2, by rw [e]; omega⟩
    · rcases List.mem_cons.1 hq with rfl | hq
      · rw [hnam] at hc
        obtain ⟨x, hx, rfl⟩ := List.mem_map.1 hc
        exact List.mem_cons_of_mem _ (List.mem_flatMap.2 ⟨x, hx, (hf x hx).1⟩)
      · obtain ⟨x, hx, hq⟩ := List.mem_flatMap.1 hq
        exact List.mem_cons_of_mem _ (List.mem_flatMap.2 ⟨x, hx, (hf x hx).2.2.2 q hq c hc⟩)
/-- .. and a type's. -/
theorem Bo.reachT (h : Bo n nm st g r) {t : Ty} (hm : mayT t = true) (hv : ∀ v ∈ varsT t, v < n) : ∃ L : List Nat, (∀ x ∈ varsT t, nm x ∈ L) ∧ L.length ≤ wt (inst (senB n nm st r) t) ∧ (∀ q ∈ L, nm q = q ∧ q < n ∧ wt (senB n nm st r q) ≤ wt (inst (senB n nm st r) t)) ∧ ∀ q ∈ L, ∀ c ∈ namesN nm st q, c ∈ L := by
  have each : ∀ x, ∃ L : List Nat, x ∈ varsT t → (nm x ∈ L ∧ L.length ≤ wt (senB n nm st r x) ∧ (∀ q ∈ L, nm q = q ∧ q < n ∧ wt (senB n nm st r q) ≤ wt (senB n nm st r x)) ∧ ∀ q ∈ L, ∀ c ∈ namesN nm st q, c ∈ L) := fun x => by
    by_cases hx : x ∈ varsT t
    · obtain ⟨L, k1, k2, k3, k4⟩ := h.reach (nm x) (h.id x) (Nat.lt_of_le_of_lt (h.le x) (hv x hx))
      rw [← h.sen_nm x] at k2 k3
      exact ⟨L, fun _ => ⟨k1, k2, k3, k4⟩⟩
    · exact ⟨[], fun h => absurd h hx⟩
  obtain ⟨f, hf⟩ := Classical.axiomOfChoice each
  refine ⟨(varsT t).flatMap f, fun x hx => List.mem_flatMap.2 ⟨x, hx, (hf x hx).1⟩, ?_, fun q hq => ?_, fun q hq c hc => ?_⟩
  · have h1 := flat_len (f := f) (F := fun v => wt (senB n nm st r v)) (varsT t) fun x hx => (hf x hx).2.1
    have h2 := vsum_len (θ := senB n nm st r) (varsT t)
    have h3 := wt_inst (θ := senB n nm st r) t hm
    have h4 := (vars_few1 t hm).1
    omega
  · obtain ⟨x, hx, hq⟩ := List.mem_flatMap.1 hq
    obtain ⟨k1, k2, k3⟩ := (hf x hx).2.2.1 q hq
    have := (wt_occ (θ := senB n nm st r) t hm hx).1
    exact ⟨k1, k2, by omega⟩
  · obtain ⟨x, hx, hq⟩ := List.mem_flatMap.1 hq
    exact List.mem_flatMap.2 ⟨x, hx, (hf x hx).2.2.2 q hq c hc⟩
/-- There is no circle of names. -/
theorem Bo.no_circle (h : Bo n nm st g r) {Z : List Nat} (hz : Z ≠ []) (hc : ∀ c ∈ Z, ∃ p ∈ Z, c ∈ namesN nm st p) : False := by
  have up : ∀ m c, c ∈ Z → r c + m < r c + m + 1 → ∃ p ∈ Z, r c + m ≤ r p := fun m => by
    induction m with
    | zero => intro c hc' _; exact ⟨c, hc', Nat.le_refl _⟩
    | succ m ih =>
      intro c hc' _
      obtain ⟨p, hp, hm⟩ := hc c hc'
      unfold namesN at hm
      cases hs : st p with
      | none =>
        rw [hs] at hm
        have : varsT (tyO none) = [] := rfl
        rw [this] at hm
        cases hm
      | some t =>
        rw [hs] at hm
        obtain ⟨x, hx, rfl⟩ := List.mem_map.1 hm
        have h1 := h.ac p t hs x hx
        obtain ⟨q, hq, h2⟩ := ih p hp (Nat.lt_succ_self _)
        exact ⟨q, hq, by omega⟩
  obtain ⟨c, hcz⟩ := List.exists_mem_of_ne_nil Z hz
  obtain ⟨p, hp, h1⟩ := up ((Z.map r).sum + 1) c hcz (Nat.lt_succ_self _)
  have h2 : r p ≤ (Z.map r).sum := mem_sum (List.mem_map.2 ⟨p, hp, rfl⟩)
  omega
end
end Types
end Go.Proofs.YtjchplgapaeagaaDoor
namespace Go.Proofs.YtjchplgapaeagaaDoor
open Go.RowKit Go.Shelf
set_option linter.unusedVariables false
attribute [local go_sem] Oper.semAt_some
namespace Types

/-- What comes in a round: a place, and what stands there: less than n0. -/
structure Pk (n0 : Nat) where
  i : Nat
  v : Nat
  lt : v < n0
def encI {n0 : Nat} (x : Pk n0) : Array Value := #[.int .i64 (x.i : Int), .int .i64 (x.v : Int)]
/-- The last ones of n, as many as k. -/
def back {α : Type} (f : Nat → α) (n k : Nat) : List α := (List.range k).map fun j => f (n - 1 - j)
theorem back_succ {α : Type} (f : Nat → α) (n m : Nat) (h : m < n) : back f n (n - m) = back f n (n - (m + 1)) ++ [f m] := by
  have e : n - m = (n - (m + 1)) + 1 := by omega
  rw [e]
  simp only [back, List.range_succ, List.map_append, List.map_cons, List.map_nil]
  rw [show n - 1 - (n - (m + 1)) = m from by omega]
theorem back_next {α : Type} (f : Nat → α) (n m : Nat) : back f n (m + 1) = back f n m ++ [f (n - 1 - m)] := by
  simp only [back, List.range_succ, List.map_append, List.map_cons, List.map_nil]
theorem back_snoc {α : Type} {f : Nat → α} {n m : Nat} {pre : List α} {x : α} (h : pre ++ [x] = back f n m) : ∃ m', m = m' + 1 ∧ pre = back f n m' ∧ x = f (n - 1 - m') := by
  cases m with
  | zero => simp [back] at h
  | succ m =>
    rw [back_next] at h
    obtain ⟨h1, h2⟩ := List.append_inj' h rfl
    exact ⟨m, rfl, h1, by injection h2⟩
theorem back_len {α : Type} (f : Nat → α) (n k : Nat) : (back f n k).length = k := by simp [back]

set_option maxRecDepth 100000 in
set_option maxHeartbeats 2000000 in
theorem back1_in {n0 : Nat} (F : Fence) (n : Nat) (h7 : F.fn 76) (hro : F.round = none) (hn : 1 ≤ n) (l Bs : Nat) (Q : Nat → Bool) (a : Option Addr) (len cap : Nat) (f : Nat → Pk n0) (hlen : len ≤ 4000000000) (hfi : ∀ k, k < len → (f k).i = k) (J Jx : List (Pk n0) → World → Prop)
    (hY : ∀ pre x W, J pre W → pre.length < len → YieldAt F (n - 1) Tryd.prog l (encI x) W fun e W' =>
      (e = .returned (.bool true) ∧ J (pre ++ [x]) W' ∧ Kp Q W W') ∨ (e = .returned (.bool false) ∧ Jx (pre ++ [x]) W'))
    (W : World) (hBs : W.cell? ⟨Bs, 0, none⟩ = some (.slice a len cap)) (hQB : Q Bs = true) (hC : ∀ k, k < len → ∃ g, a = some ⟨g, 0, none⟩ ∧ Q g = true ∧ W.cell? ⟨g, k, none⟩ = some (.int .i64 ((f k).v : Int))) (h0 : J [] W) :
    CallsIn F n Tryd.prog 76 #[.func (.yield l) #[] #[], .pointer (some ⟨Bs, 0, none⟩)] W fun e W' => (∃ v, e = .returned v) ∧
      ((∃ ys, ys = back f len len ∧ J ys W') ∨ (∃ pre, (∃ m, m ≤ len ∧ pre = back f len m) ∧ Jx pre W')) := by
  refine callsIn_of_wp Tryd.func76 rfl h7 ?_ hro
  simp only [Tryd.ntmps76, List.size_toArray, List.length_cons, List.length_nil, Nat.reduceAdd, Nat.reduceSub, Array.replicate_succ, Array.replicate_zero, List.push_toArray, List.append_toArray, List.nil_append, List.cons_append]
  gi_wp2
  gi_loopw [3] (fun i wr => ∃ m : Nat, m ≤ len ∧ i = .int .i64 ((m : Int) - 1) ∧ J (back f len (len - m)) wr ∧ Kp Q W wr)
    (fun i _ => (intOf i + 1).toNat)
  case atStart => exact ⟨len, Nat.le_refl _, rfl, by rw [Nat.sub_self]; exact h0, Kp.refl _ _⟩
  case round =>
    obtain ⟨m, hm, rfl, hJs, hnx⟩ := hrel
    have hbs : wr.cell? ⟨Bs, 0, none⟩ = some (.slice a len cap) := (World.cell?_of_block (hnx.block Bs (World.block_lt_of_cell? W ⟨Bs, 0, none⟩ hBs) hQB)).trans hBs
    cases m with
    | zero =>
      gi_wp2
      go_end0
      exact ⟨⟨_, rfl⟩, .inl ⟨_, rfl, by simpa using hJs⟩⟩
    | succ m =>
      obtain ⟨g, rfl, hQg, hcm⟩ := hC m (by omega)
      have c0 : wr.cell? ⟨g, m, none⟩ = some (.int .i64 ((f m).v : Int)) := (World.cell?_of_block (hnx.block g (World.block_lt_of_cell? W ⟨g, m, none⟩ hcm) hQg)).trans hcm
      have hi := hfi m (by omega)
      obtain ⟨fn, tmps, assign, body, hy, hR⟩ := hY _ (f m) wr hJs (by rw [back_len]; omega)
      have hbk := back_succ f len m (by omega)
      unfold encI at hy
      rw [hi] at hy
      have e1 : ((m + 1 : Nat) : Int) - 1 = (m : Int) := by omega
      rw [e1]
      gi_wp2
      refine hR.mono ?_
      rintro e W3 (⟨rfl, hJ3, hk3⟩ | ⟨rfl, hJx3⟩)
      · gi_wp2
        go_roundw
        case rel => exact ⟨m, by omega, by go_num, by rw [hbk]; exact hJ3, hnx.trans hk3⟩
        case measure => simp [intOf]
      · gi_wp2
        refine bodyPost_ret (results_none rfl _ _ _) rfl ?_
        exact ⟨⟨_, rfl⟩, .inr ⟨_, ⟨len - m, by omega, hbk.symm⟩, hJx3⟩⟩

set_option maxHeartbeats 1000000 in
theorem backward_walk (a : Option Addr) (len cap : Nat) (w : World) :
    Calls Tryd.prog 63 #[.slice a len cap] w fun e w' => e = .returned (.func (.func 76) #[] #[.pointer (some ⟨w.heap.size, 0, none⟩)]) ∧ w' = w.alloc (.cells #[.slice a len cap] 31) := by
  go_enter Tryd.func63, Tryd.ntmps63
  go_wp2
  go_ret
  exact ⟨rfl, rfl⟩
theorem back_stops {n0 : Nat} (F : Fence) (n : Nat) (h7 : F.fn 76) (hro : F.round = none) (hn : 1 ≤ n) (Bs : Nat) (Q : Nat → Bool) (a : Option Addr) (len cap : Nat) (f : Nat → Pk n0) (hlen : len ≤ 4000000000) (hfi : ∀ k, k < len → (f k).i = k)
    (w : World) (hBs : w.cell? ⟨Bs, 0, none⟩ = some (.slice a len cap)) (hQB : Q Bs = true) (hC : ∀ k, k < len → ∃ g, a = some ⟨g, 0, none⟩ ∧ Q g = true ∧ w.cell? ⟨g, k, none⟩ = some (.int .i64 ((f k).v : Int))) :
    SeqStopsK F n Tryd.prog 76 #[.pointer (some ⟨Bs, 0, none⟩)] encI (Kp Q) (fun ys => ys = back f len len) (fun pre => ∃ m, m ≤ len ∧ pre = back f len m) len w := fun l J Jx W hb _ _ hY h0 =>
  back1_in F n h7 hro hn l Bs Q a len cap f hlen hfi J Jx hY W ((hb.cell (p := ⟨Bs, 0, none⟩) (World.block_lt_of_cell? w ⟨Bs, 0, none⟩ hBs)).trans hBs) hQB (fun k hk => by
    obtain ⟨g, e, h1, h2⟩ := hC k hk
    exact ⟨g, e, h1, (hb.cell (World.block_lt_of_cell? w _ h2)).trans h2⟩) h0
end Types
end Go.Proofs.YtjchplgapaeagaaDoor
namespace Go.Proofs.YtjchplgapaeagaaDoor
set_option linter.unusedVariables false
namespace Types

/-- One place less. -/
def lessS (nm : Nat → Nat) (s : List Nat × (Nat → Option Int)) (v : Nat) : List Nat × (Nat → Option Int) :=
  (if (s.2 (nm v)).getD 0 - 1 = 0 then s.1 ++ [nm v] else s.1, upd s.2 (nm v) (some ((s.2 (nm v)).getD 0 - 1)))
/-- The order, behind so many of its names, and some of the next one's places. -/
structure OI (n : Nat) (nm : Nat → Nat) (st : Nat → Option Ty) (met : List Nat) (ord : List Nat) (F : Nat → Option Int) (i : Nat) (pr : List Nat) : Prop where
  nd : ord.Nodup
  sub : ∀ v ∈ ord, v ∈ met
  F : ∀ v, F v = if v ∈ met then some ((occN n nm st met v : Int) - ((occN n nm st (ord.take i) v + pr.count v : Nat) : Int)) else none
  zero : ∀ v, v ∈ ord ↔ v ∈ met ∧ occN n nm st met v = occN n nm st (ord.take i) v + pr.count v
  top : ∀ j v, ord[j]? = some v → ∀ p ∈ met, v ∈ namesN nm st p → p ∈ ord.take j
section
variable {n : Nat} {nm : Nat → Nat} {st : Nat → Option Ty} {met ord pr : List Nat} {F : Nat → Option Int} {i : Nat}
theorem OI.start {R : Nat → Prop} (h : MI nm n R met F (occN n nm st met)) : OI n nm st met (met.filter fun v => !decide (0 < (F v).getD 0)) F 0 [] := by
  have hz : ∀ v, v ∈ met.filter (fun v => !decide (0 < (F v).getD 0)) ↔ v ∈ met ∧ occN n nm st met v = 0 := fun v => by
    rw [List.mem_filter]
    refine ⟨fun ⟨a, b⟩ => ⟨a, ?_⟩, fun ⟨a, b⟩ => ⟨a, ?_⟩⟩
    · rw [h.F v, if_pos a] at b
      simp at b
      exact b
    · rw [h.F v, if_pos a, b]
      rfl
  refine ⟨h.nd.filter _, fun v hv => ((hz v).1 hv).1, fun v => ?_, fun v => ?_, fun j v hj p hp hc => ?_⟩
  · rw [h.F v, List.take_zero, occ_nil]; simp
  · rw [hz v, List.take_zero, occ_nil]; simp
  · have := (hz v).1 (List.mem_iff_getElem?.2 ⟨j, hj⟩)
    have := occ_pos (n := n) (nm := nm) (st := st) (h.mem p hp).2.1 hp hc
    omega
theorem take_snoc {L : List Nat} {x i : Nat} (h : i ≤ L.length) : (L ++ [x]).take i = L.take i := List.take_append_of_le_length h
theorem OI.less {R : Nat → Prop} {F0 : Nat → Option Int} (h : OI n nm st met ord F i pr) (hm : ∀ v ∈ met, v < n) (hcl : ∀ p ∈ met, ∀ c ∈ namesN nm st p, c ∈ met) {p x : Nat} {post : List Nat} (hp : ord[i]? = some p) (hn : namesN nm st p = pr ++ nm x :: post) :
    ∃ pl, F (nm x) = some pl ∧ 1 ≤ pl ∧ pl ≤ occN n nm st met (nm x) ∧ OI n nm st met (lessS nm (ord, F) x).1 (lessS nm (ord, F) x).2 i (pr ++ [nm x]) ∧ ord <+: (lessS nm (ord, F) x).1 := by
  have hil : i < ord.length := (List.getElem?_eq_some_iff.1 hp).1
  have hpo : p ∈ ord := List.mem_iff_getElem?.2 ⟨i, hp⟩
  have hpm := h.sub p hpo
  have hxn : nm x ∈ namesN nm st p := by rw [hn]; simp
  have hxm := hcl p hpm _ hxn
  have htk : ord.take (i + 1) = ord.take i ++ [p] := by rw [List.take_add_one, hp]; rfl
  have hpt : p ∉ ord.take i := fun hq => by
    have := h.nd
    rw [← List.take_append_drop i ord, List.nodup_append] at this
    have hd : p ∈ ord.drop i := by
      rw [List.mem_iff_getElem?]
      exact ⟨0, by rw [List.getElem?_drop]; exact hp⟩
    exact this.2.2 p hq p hd rfl
  have hocc : ∀ v, occN n nm st (ord.take i) v + (namesN nm st p).count v = occN n nm st (ord.take (i + 1)) v := fun v => by rw [htk, occ_snoc (hm p hpm) hpt]
  have hsub : ∀ v, occN n nm st (ord.take (i + 1)) v ≤ occN n nm st met v := fun v => occ_le (fun y hy => h.sub y (List.mem_of_mem_take hy)) v
  have hcnt : pr.count (nm x) + 1 ≤ (namesN nm st p).count (nm x) := by
    rw [hn, List.count_append, List.count_cons_self]; omega
  have h1 := hocc (nm x)
  have h2 := hsub (nm x)
  have hF := h.F (nm x)
  rw [if_pos hxm] at hF
  obtain ⟨pl, hpl⟩ : ∃ pl : Int, pl = (occN n nm st met (nm x) : Int) - ((occN n nm st (ord.take i) (nm x) + pr.count (nm x) : Nat) : Int) := ⟨_, rfl⟩
  rw [← hpl] at hF
  have hx : nm x ∉ ord := fun hq => by have := ((h.zero _).1 hq).2; omega
  have hc : ∀ v, (pr ++ [nm x]).count v = pr.count v + if v = nm x then 1 else 0 := fun v => by
    rw [List.count_append, List.count_cons, List.count_nil]
    by_cases e : v = nm x
    · subst e; simp
    · have e2 : (nm x == v) = false := beq_eq_false_iff_ne.2 fun q => e q.symm
      simp [e, e2]
  have hS : lessS nm (ord, F) x = (if pl - 1 = 0 then ord ++ [nm x] else ord, upd F (nm x) (some (pl - 1))) := by
    unfold lessS
    simp only [hF, Option.getD_some]
  have htake : (lessS nm (ord, F) x).1.take i = ord.take i := by
    rw [hS]
    show (if pl - 1 = 0 then ord ++ [nm x] else ord).take i = _
    split
    · exact take_snoc (by omega)
    · rfl
  have hpre : ord <+: (lessS nm (ord, F) x).1 := by
    rw [hS]
    show ord <+: (if pl - 1 = 0 then ord ++ [nm x] else ord)
    split
    · exact List.prefix_append _ _
    · exact List.prefix_refl _
  refine ⟨pl, hF, by omega, by omega, ⟨?_, fun v hv => ?_, fun v => ?_, fun v => ?_, fun j v hj q hq hv => ?_⟩, hpre⟩
  · rw [hS]
    show (if pl - 1 = 0 then ord ++ [nm x] else ord).Nodup
    split
    · exact nodup_snoc h.nd hx
    · exact h.nd
  · rw [hS] at hv
    have hv : v ∈ (if pl - 1 = 0 then ord ++ [nm x] else ord) := hv
    split at hv
    · rcases List.mem_append.1 hv with hv | hv
      · exact h.sub v hv
      · rw [List.mem_singleton] at hv; subst hv; exact hxm
    · exact h.sub v hv
  · rw [htake, hc, hS]
    show upd F (nm x) (some (pl - 1)) v = _
    by_cases e : v = nm x
    · subst e; rw [upd_same, if_pos hxm, if_pos rfl, hpl]; congr 1; omega
    · rw [upd_other _ _ e, h.F v, if_neg e, Nat.add_zero]
  · rw [htake, hc, hS]
    show v ∈ (if pl - 1 = 0 then ord ++ [nm x] else ord) ↔ _
    by_cases e : v = nm x
    · subst e
      rw [if_pos rfl]
      split
      · exact ⟨fun _ => ⟨hxm, by omega⟩, fun _ => by simp⟩
      · exact ⟨fun q => absurd q hx, fun q => by have := q.2; omega⟩
    · rw [if_neg e, Nat.add_zero]
      split
      · rw [List.mem_append, List.mem_singleton]
        exact ⟨fun q => (h.zero v).1 (q.resolve_right e), fun q => .inl ((h.zero v).2 q)⟩
      · exact h.zero v
  · rw [hS] at hj ⊢
    have hj : (if pl - 1 = 0 then ord ++ [nm x] else ord)[j]? = some v := hj
    show q ∈ (if pl - 1 = 0 then ord ++ [nm x] else ord).take j
    split at hj
    · rename_i h0
      rw [if_pos h0]
      rcases Nat.lt_or_ge j ord.length with hjl | hjl
      · rw [List.getElem?_append_left hjl] at hj
        rw [take_snoc (by omega)]
        exact h.top j v hj q hq hv
      · rw [List.getElem?_append_right hjl] at hj
        have hj0 : j = ord.length := by
          rcases Nat.eq_zero_or_pos (j - ord.length) with z | z
          · omega
          · rw [List.getElem?_eq_none (by simp; omega)] at hj; cases hj
        subst hj0
        rw [Nat.sub_self] at hj
        cases hj
        rw [take_snoc (Nat.le_refl _), List.take_length]
        have hin := occ_eq (n := n) (nm := nm) (st := st) (L := ord.take (i + 1)) (M := met) (fun y hy => h.sub y (List.mem_of_mem_take hy)) (c := nm x) (by omega) hq (hm q hq) hv
        exact List.mem_of_mem_take hin
    · rename_i h0
      rw [if_neg h0]
      exact h.top j v hj q hq hv
/-- The next name's turn. -/
theorem OI.next {p : Nat} (h : OI n nm st met ord F i (namesN nm st p)) (hm : ∀ v ∈ met, v < n) (hp : ord[i]? = some p) : OI n nm st met ord F (i + 1) [] := by
  have hpm := h.sub p (List.mem_iff_getElem?.2 ⟨i, hp⟩)
  have htk : ord.take (i + 1) = ord.take i ++ [p] := by rw [List.take_add_one, hp]; rfl
  have hpt : p ∉ ord.take i := fun hq => by
    have := h.nd
    rw [← List.take_append_drop i ord, List.nodup_append] at this
    have hd : p ∈ ord.drop i := by
      rw [List.mem_iff_getElem?]
      exact ⟨0, by rw [List.getElem?_drop]; exact hp⟩
    exact this.2.2 p hq p hd rfl
  have hocc : ∀ v, occN n nm st (ord.take (i + 1)) v = occN n nm st (ord.take i) v + (namesN nm st p).count v := fun v => by rw [htk, occ_snoc (hm p hpm) hpt]
  exact ⟨h.nd, h.sub, fun v => by rw [hocc, List.count_nil, Nat.add_zero]; exact h.F v, fun v => by rw [hocc, List.count_nil, Nat.add_zero]; exact h.zero v, h.top⟩
/-- All of them are in the order. -/
theorem OI.all (h : OI n nm st met ord F ord.length []) (hl : ord.length = met.length) : ∀ v ∈ met, v ∈ ord := nodup_all h.nd h.sub (by omega)
/-- .. or some stand within one another. -/
theorem OI.circle (h : OI n nm st met ord F ord.length []) (hd : met.Nodup) (hm : ∀ v ∈ met, v < n) (hl : ord.length ≠ met.length) : ∃ Z : List Nat, Z ≠ [] ∧ (∀ c ∈ Z, c ∈ met) ∧ ∀ c ∈ Z, ∃ p ∈ Z, c ∈ namesN nm st p := by
  refine ⟨met.filter fun v => !decide (v ∈ ord), fun he => hl ?_, fun c hc => (List.mem_filter.1 hc).1, fun c hc => ?_⟩
  · have hall : ∀ v ∈ met, v ∈ ord := fun v hv => by
      refine Classical.byContradiction fun hn => ?_
      have : v ∈ met.filter fun v => !decide (v ∈ ord) := List.mem_filter.2 ⟨hv, by rw [decide_eq_false hn]; rfl⟩
      rw [he] at this
      cases this
    have h1 := nodup_sub h.nd h.sub
    have h2 := nodup_sub hd hall
    omega
  · obtain ⟨h1, h2⟩ := List.mem_filter.1 hc
    have hno : c ∉ ord := fun q => by rw [decide_eq_true q] at h2; cases h2
    have hz := fun q => hno ((h.zero c).2 ⟨h1, q⟩)
    rw [List.take_length, List.count_nil, Nat.add_zero] at hz
    obtain ⟨p, p1, p2, p3, p4⟩ := occ_more h.sub (c := c) (fun q => hz q.symm)
    exact ⟨p, List.mem_filter.2 ⟨p1, by rw [decide_eq_false p2]; rfl⟩, p4⟩
end
end Types
end Go.Proofs.YtjchplgapaeagaaDoor
namespace Go.Proofs.YtjchplgapaeagaaDoor
open Go.RowKit
set_option linter.unusedVariables false
set_option linter.unusedSimpArgs false
namespace Types

set_option maxRecDepth 100000 in
set_option maxHeartbeats 6400000 in
theorem eachW4 {α : Type} (k1 k2 k3 : Value) (Inv : α → (Nat → Bool) → World → Prop) (step : α → Int → α) (ok : α → Int → Prop)
    (hC : ∀ a v Q W, Inv a Q W → ok a v → Calls Tryd.prog 75 #[.int .i64 v, k1, k2, k3] W fun en W' => en = .returned (.tuple #[]) ∧ ∃ Q', Inv (step a v) Q' W' ∧ QSt Q W Q' W')
    (hI : ∀ a Q W O, Inv a Q W → Inv a Q (W.alloc O)) (hQ : ∀ a Q W, Inv a Q W → ∀ b, W.heap.size ≤ b → Q b = true) :
    ∀ (m : Nat) (ts : List Ty) (p : Option Addr) (l d : Nat) (a : α) (Q : Nat → Bool) (w : World), wts ts ≤ m → ts.length = l → l ≤ maxLen → Kids (veil Q w) p ts → Inv a Q w → EOk step ok a (evK ts) →
    Calls Tryd.prog 47 #[.func (.func 75) #[] #[k1, k2, k3], .slice p l d] w fun en w' => en = .returned (.tuple #[]) ∧ ∃ Q', Inv ((evK ts).foldl step a) Q' w' ∧ QSt Q w Q' w' := by
  intro m
  induction m using Nat.strongRecOn with
  | _ m ih =>
    intro ts p l d a Q w hm hl hlm hk hi hok
    unfold maxLen at hlm
    have HM := Lib.hid hm; have HL := Lib.hid hl; have HKI := Lib.hid hk; have HIN := Lib.hid hi; have HOK := Lib.hid hok; have IH := Lib.hid ih; have HC := Lib.hid hC; have HI := Lib.hid hI; have HQ := Lib.hid hQ
    clear hm hl hk hi hok ih hC hI hQ
    go_enter Tryd.func47, Tryd.ntmps47
    go_wp2_with (fail)
    go_loopw [8] (fun i wr => ∃ (j : Nat) (b : α) (Qb : Nat → Bool), j ≤ l ∧ i = .int .i64 j ∧ Hid (Inv b Qb wr) ∧ Hid ((evK ts).foldl step a = (evK (ts.drop j)).foldl step b) ∧ Hid (EOk step ok b (evK (ts.drop j))) ∧ Hid (QSt Q w Qb wr)) (fun i _ => l - (intOf i).toNat)
    case atStart => exact ⟨0, a, Q, Nat.zero_le _, rfl, HIN, Lib.hid (by rw [List.drop_zero]), Lib.hid (by rw [List.drop_zero]; exact HOK.out), Lib.hid (QSt.refl _ _)⟩
    case round =>
      obtain ⟨j, b, Qb, hj, rfl, HB, HF, HO, HK⟩ := hrel
      by_cases hlt : j < l
      · have hjk : j < ts.length := by rw [HL.out]; exact hlt
        have hkr := HK.out.kids HKI.out
        obtain ⟨bb, o, q, c', rfl, hkid, e0, e1, e2⟩ := hkr.get j hjk
        have c0 := (veil_seen e0).2
        have c1 := (veil_seen e1).2
        have c2 := (veil_seen e2).2
        have hwm : wts (tget ts j).ks < wts ts := by have h1 := wts_get hjk; have h2 := wt_ks (tget ts j); omega
        have hnew : Qb wr.heap.size = true := HQ.out _ _ _ HB.out _ (Nat.le_refl _)
        have hev := evK_drop ts j hjk
        have HJK := Lib.hid hjk; have HKID := Lib.hid hkid; have HWM := Lib.hid hwm; have HN := Lib.hid hnew; have HEV := Lib.hid hev
        have HB1 := Lib.hid (HI.out b Qb wr (.cells #[.int .u8 (tget ts j).h.k, .int .i64 (tget ts j).h.v, .slice q (tget ts j).ks.length c'] 25) HB.out)
        have HX := Lib.hid (heap_alloc_new wr (.cells #[.int .u8 (tget ts j).h.k, .int .i64 (tget ts j).h.v, .slice q (tget ts j).ks.length c'] 25))
        clear hjk hkr hkid hwm hnew hev e0 e1 e2 HB
        by_cases h5 : (tget ts j).h.k = 5
        · have h5' : ((tget ts j).h.k == 5) = true := by rw [h5]; rfl
          have hevt := HEV.out
          rw [evT_eq, if_pos h5] at hevt
          have ho := HO.out
          rw [hevt] at ho
          have HF2 := Lib.hid (HF.out.trans (by rw [hevt]; rfl : _ = (evK (tget ts j).ks ++ evK (ts.drop (j + 1))).foldl step (step b (tget ts j).h.v)))
          have HO1 := Lib.hid ho.1; have HO2 := Lib.hid (show EOk step ok (step b (tget ts j).h.v) (evK (tget ts j).ks ++ evK (ts.drop (j + 1))) from ho.2)
          have hcc := HC.out b (tget ts j).h.v Qb _ HB1.out HO1.out
          have HCC := Lib.hid hcc
          clear hevt ho h5 hcc HF HO
          go_wp2_with (fail)
          refine HCC.out.mono ?_
          rintro en w1 ⟨rfl, Q1, hi1, hk1⟩
          have hx1 := (hk1.1.block _ (lt_of_block HX.out) HN.out).trans HX.out
          obtain ⟨⟨g0, g1, g2⟩, -, gl⟩ := c3 hx1
          have HK1 := Lib.hid ((HK.out.trans (QSt.alloc _)).trans hk1)
          have HI1 := Lib.hid hi1
          have hsp := eok_append HO2.out
          have HS1 := Lib.hid hsp.1; have HS2 := Lib.hid hsp.2
          have hih := IH.out (wts (tget ts j).ks) (by have := HWM.out; have := HM.out; omega) (tget ts j).ks q _ c' _ Q1 w1 (Nat.le_refl _) rfl (Nat.le_trans HKID.out.cap.1 HKID.out.cap.2) (((QSt.alloc _).trans hk1).kids HKID.out.kids) HI1.out HS1.out
          have HIH := Lib.hid hih
          clear hx1 hi1 hk1 hsp hih c0 c1 c2 h5'
          go_wp2_with (fail)
          refine HIH.out.mono ?_
          rintro en w2 ⟨rfl, Q2, hi2, hk2⟩
          have HK2 := Lib.hid (HK1.out.trans hk2); have HI2 := Lib.hid hi2
          clear hi2 hk2 g0 g1 g2 gl
          go_wp2_with (fail)
          go_roundw
          case rel => exact ⟨j + 1, _, _, by omega, by go_num, HI2, Lib.hid (by rw [HF2.out, List.foldl_append]), HS2, HK2⟩
          case measure => simp [intOf]; omega
        · have h5' : ((tget ts j).h.k == 5) = false := beq_eq_false_iff_ne.2 h5
          have hevt := HEV.out
          rw [evT_eq, if_neg h5, List.nil_append] at hevt
          have ho := HO.out
          rw [hevt] at ho
          have HF2 := Lib.hid (HF.out.trans (by rw [hevt] : _ = (evK (tget ts j).ks ++ evK (ts.drop (j + 1))).foldl step b))
          have hsp := eok_append ho
          have HS1 := Lib.hid hsp.1; have HS2 := Lib.hid hsp.2
          have hk1 := HK.out.trans (QSt.alloc (.cells #[.int .u8 (tget ts j).h.k, .int .i64 (tget ts j).h.v, .slice q (tget ts j).ks.length c'] 25))
          have HK1 := Lib.hid hk1
          have hih := IH.out (wts (tget ts j).ks) (by have := HWM.out; have := HM.out; omega) (tget ts j).ks q _ c' b Qb (wr.alloc (.cells #[.int .u8 (tget ts j).h.k, .int .i64 (tget ts j).h.v, .slice q (tget ts j).ks.length c'] 25)) (Nat.le_refl _) rfl (Nat.le_trans HKID.out.cap.1 HKID.out.cap.2) ((QSt.alloc _).kids HKID.out.kids) HB1.out HS1.out
          have HIH := Lib.hid hih
          clear hevt ho h5 hsp hk1 hih HF HO
          go_wp2_with (fail)
          refine HIH.out.mono ?_
          rintro en w2 ⟨rfl, Q2, hi2, hk2⟩
          have HK2 := Lib.hid (HK1.out.trans hk2); have HI2 := Lib.hid hi2
          clear hi2 hk2 c0 c1 c2
          go_wp2_with (fail)
          go_roundw
          case rel => exact ⟨j + 1, _, _, by omega, by go_num, HI2, Lib.hid (by rw [HF2.out, List.foldl_append]), HS2, HK2⟩
          case measure => simp [intOf]; omega
      · obtain rfl : j = l := by omega
        have hr := HF.out
        rw [List.drop_eq_nil_of_le (by rw [HL.out]; exact Nat.le_refl _), evK_nil] at hr
        have HR := Lib.hid (show Inv ((evK ts).foldl step a) Qb wr by rw [hr]; exact HB.out)
        clear hr
        go_wp2_with (fail)
        exact bodyPost_end (results_none rfl _ _ _) rfl ⟨rfl, Qb, HR.out, HK.out⟩
end Types
end Go.Proofs.YtjchplgapaeagaaDoor
