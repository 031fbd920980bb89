/- A world with some blocks out of sight; an append that tells whether its array is new. -/
import Derived.Test.YtpedmaomogigmaaDoorTermFold
import Derived.Test.YtpedmaomogigmaaDoorTermAllW
namespace Go.Proofs.YtpedmaomogigmaaDoor
open Go.RowKit
set_option linter.unusedVariables false
namespace Term

/-- The world, but for the blocks that aren't looked at. -/
def veil (P : Nat → Bool) (W : World) : World := { W with heap := W.heap.mapIdx fun i o => if P i = true then o else .cells #[] 0 }
theorem veil_size (P : Nat → Bool) (W : World) : (veil P W).heap.size = W.heap.size := by simp [veil]
theorem veil_at {P : Nat → Bool} {W : World} {b : Nat} (h : P b = true) : (veil P W).heap[b]? = W.heap[b]? := by
  unfold veil
  simp only [Array.getElem?_mapIdx]
  cases W.heap[b]? with
  | none => rfl
  | some o => simp [h]
theorem veil_seen {P : Nat → Bool} {W : World} {a : Addr} {v : Value} (h : (veil P W).cell? a = some v) : P a.block = true ∧ W.cell? a = some v := by
  cases hp : P a.block
  · unfold World.cell? veil at h
    simp only [Array.getElem?_mapIdx] at h
    cases ho : W.heap[a.block]? with
    | none => rw [ho] at h; simp at h
    | some o => rw [ho] at h; simp [hp] at h
  · exact ⟨rfl, by rw [← World.cell?_of_block (veil_at hp)]; exact h⟩
theorem veil_reads (P : Nat → Bool) (W : World) : Reads (veil P W) W := fun a v h => (veil_seen h).2
/-- From one to the other: what is seen of the one stands in the other, and is seen there. -/
theorem veil_to {P P' : Nat → Bool} {W W' : World} (h : ∀ b, b < W.heap.size → P b = true → P' b = true ∧ W'.heap[b]? = W.heap[b]?) : Reads (veil P W) (veil P' W') := fun a v hv => by
  obtain ⟨hp, hw⟩ := veil_seen hv
  obtain ⟨h1, h2⟩ := h a.block (World.block_lt_of_cell? W _ hw) hp
  rw [World.cell?_of_block (veil_at h1), World.cell?_of_block h2]
  exact hw
theorem Kids.reads' {w W : World} {p : Option Addr} {ts : List Tm} (h : Kids w p ts) (hb : Reads w W) : Kids W p ts := by
  induction h with
  | nokids p => exact .nokids p
  | atkids b o ts q c hh hc hl hk ih => exact .atkids b o ts q c hh (fun i hi j v hv => hb _ _ (hc i hi j v hv)) hl (fun i hi => ih i hi)
theorem TmIs.reads' {w W : World} {h : Hd} {p : Option Addr} {l c : Nat} {t : Tm} (k : TmIs w h p l c t) (hb : Reads w W) : TmIs W h p l c t := ⟨k.head, k.len, k.ok, k.cap, k.kids.reads' hb⟩
theorem Flat.reads {w W : World} (hb : Reads w W) : ∀ {ts : List Tm} {xs : List Value}, Flat w xs ts → Flat W xs ts
  | [], xs, h => h
  | t :: ts, xs, ⟨q, c, zs, he, hT, h⟩ => ⟨q, c, zs, he, hT.reads' hb, h.reads hb⟩
theorem veil_own {P : Nat → Bool} {W : World} {B e size n : Nat} {v : Value} {xs : List Value} (h : W.ownsRow B e size v n xs) (hp : ∀ k, v.ownBlock = some k → P k = true) : (veil P W).ownsRow B e size v n xs := by
  refine ⟨h.1, h.2.imp id ?_⟩
  rintro ⟨g, cap, cur, rfl, hg, hh, r⟩
  exact ⟨g, cap, cur, rfl, hg, by rw [veil_at (hp g rfl)]; exact hh, r⟩

section
variable {P : Program} (w : World)
/-- An append to a row of the call's own: its array is the old one, or a new one. -/
theorem append_told (base : Nat) (t ty e : TypeId) (i : TypeInfo) (z : Value) (size bytes : Nat) (ht : P.underlying t = some (.slice e)) (hi : P.info? e = some i) (hz : i.zero = some z)
    (hsize : i.size = size) (hby : i.bytes = bytes) (hzs : z.cells.size = size) (hsz : 0 < size)
    (a0 : Option Addr) (n c0 : Nat) (xs : List Value) (hown : w.ownsRow base e size (.slice a0 n c0) n xs) (ha0 : ∃ g, a0 = some ⟨g, 0, none⟩)
    (a : Addr) (m c : Nat) (news : List Value) (hl : news.length = m * size) (hnews : ∀ j u, news[j]? = some u → w.cell? (a.add j) = some u) (h1 : ∀ u ∈ news, u.oneCell' = true)
    (h63 : n + m ≤ maxLen) (hbytes : (n + m) * bytes ≤ 140737488355328) (hbase : base ≤ w.heap.size) :
    ∃ v' w', (Builtin.append_ #[t, t] ty #[.slice a0 n c0, .slice (some a) m c]).run P w = .ok v' w' ∧ w'.ownsRow base e size v' (n + m) (xs ++ news) ∧ w.grownBy w' (Value.slice a0 n c0).ownBlock ∧
      (∀ k, v'.ownBlock = some k → (Value.slice a0 n c0).ownBlock = some k ∨ k = w.heap.size) := by
  obtain ⟨v', w', hr, h2, h3, _⟩ := run_append_own (P := P) w base t ty e i z size bytes ht hi hz hsize hby hzs hsz _ n xs hown a m c news hl hnews h1 h63 hbytes hbase
  refine ⟨v', w', hr, h2, h3, fun k hk => ?_⟩
  obtain ⟨g0, rfl⟩ := ha0
  subst hsize
  subst hby
  rcases hown.2 with ⟨h0, _⟩ | ⟨g, cap, cur, hv, hbg, hg, hnc, hcm, hcs, htake⟩
  · cases h0
  · injection hv with e1 e2 e3
    injection e1 with e1
    injection e1 with e1
    subst e1 e3
    by_cases hroom : n + m ≤ c0
    · have hfit : n * i.size + news.length ≤ cur.size := by rw [hl, hcs, ← Nat.add_mul]; exact Nat.mul_le_mul_right _ hroom
      have hr1 := run_append_room (P := P) w t ty e i ht hi g0 n c0 cur hg a m c news hl hnews h1 hroom hfit
      rw [hr] at hr1
      injection hr1 with hr1
      rw [hr1] at hk
      exact .inl hk
    · have holds : ∀ j u, xs[j]? = some u → w.cell? ((⟨g0, 0, none⟩ : Addr).add j) = some u := hown.cells (g := g0) rfl
      have hr1 := run_append_grow (P := P) w t ty e i z ht hi hz ⟨g0, 0, none⟩ n c0 xs hown.1 holds a m c news hl hnews (by omega) (by unfold maxLen at h63; omega) (growslice_fits (by omega) hbytes)
      rw [hr] at hr1
      injection hr1 with hr1
      rw [hr1] at hk
      simp [Value.ownBlock] at hk
      exact .inr hk.symm
theorem wpList_append_told {ops : Array Oper} {rest : List Oper} {o : Oper} {a : Act} {Q : Exit → Act → World → Prop} (hgd : o.guard = none) (s x : Operand) (t : TypeId)
    (ho : o.op = .call { callee := .builtin .append, args := #[s, x], argTypes := #[t, t] })
    (base : Nat) (e : TypeId) (i : TypeInfo) (z : Value) (size bytes : Nat) (ht : P.underlying t = some (.slice e)) (hi : P.info? e = some i) (hz : i.zero = some z)
    (hsize : i.size = size) (hby : i.bytes = bytes) (hzs : z.cells.size = size) (hsz : 0 < size)
    (a0 : Option Addr) (n c0 : Nat) (xs : List Value) (hs : a.eval s = .slice a0 n c0) (hown : w.ownsRow base e size (.slice a0 n c0) n xs) (ha0 : ∃ g, a0 = some ⟨g, 0, none⟩)
    (ad : Addr) (m c : Nat) (news : List Value) (hx : a.eval x = .slice (some ad) m c) (hl : news.length = m * size) (hnews : ∀ j u, news[j]? = some u → w.cell? (ad.add j) = some u) (h1 : ∀ u ∈ news, u.oneCell' = true)
    (h63 : n + m ≤ maxLen) (hbytes : (n + m) * bytes ≤ 140737488355328) (hbase : base ≤ w.heap.size)
    (h : ∀ v' w', w'.ownsRow base e size v' (n + m) (xs ++ news) → w.grownBy w' (Value.slice a0 n c0).ownBlock → (∀ k, v'.ownBlock = some k → (Value.slice a0 n c0).ownBlock = some k ∨ k = w.heap.size) → wpList P ops Q rest (a.put o.dst v') w') : wpList P ops Q (o :: rest) a w := by
  refine wpList_plain hgd fun K hK => ?_
  obtain ⟨v', w', hr, h2, h3, h4⟩ := append_told (P := P) w base t o.type e i z size bytes ht hi hz hsize hby hzs hsz a0 n c0 xs hown ha0 ad m c news hl hnews h1 h63 hbytes hbase
  unfold Oper.wp
  simp only [execOp, ho, resolve, invoke, builtin, Sem.run_bind, Sem.run_pure, Result.andThen_ok, List.map_toArray, List.map_cons, List.map_nil, hs, hx, hr]
  exact hK _ _ (h v' w' h2 h3 h4)
end
end Term
end Go.Proofs.YtpedmaomogigmaaDoor
