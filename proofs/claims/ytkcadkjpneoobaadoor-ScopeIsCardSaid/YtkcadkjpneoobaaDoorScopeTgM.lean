/- What is met in two terms: mathematics. -/
import Derived.Test.YtkcadkjpneoobaaDoorScopeBM
import Derived.Test.YtkcadkjpneoobaaDoorScopeK
import Derived.Test.YtkcadkjpneoobaaDoorScopeL
namespace Go.Proofs.YtkcadkjpneoobaaDoor
open Go.RowKit
set_option linter.unusedVariables false
set_option linter.unusedSimpArgs false
namespace Scope
open Term (Tm Hd tget wt wts wts_cons wts_nil drop_tget mayT okT okK nodeB)
open Words (sel)

theorem take_sel (s : List ByteArray) (j : Nat) (hj : j < s.length) : s.take (j + 1) = s.take j ++ [sel s j] := by
  unfold sel
  rw [List.take_add_one, List.getElem?_eq_getElem hj, List.getD_eq_getElem?_getD, List.getElem?_eq_getElem hj]
  rfl
/-- One text of the second term's more. -/
theorem put_take (s a : List ByteArray) (j : Nat) (hj : j < s.length) : putL (s.take (j + 1)) a = putS (sel s j) (putL (s.take j) a) := by
  rw [take_sel s j hj, putL_app]
  rfl
theorem put_has {x : ByteArray} {a : List ByteArray} (h : hasB a x = true) : putS x a = a := if_neg (fun k => by have := k.2; rw [h] at this; cases this)
theorem put_new {x : ByteArray} {a : List ByteArray} (h : hasB a x = false) (hx : x ≠ ⟨#[]⟩) : putS x a = a ++ [x] := if_pos ⟨hx, h⟩
theorem sel_mem' {s : List ByteArray} {j : Nat} (hj : j < s.length) : sel s j ∈ s := by
  unfold sel
  rw [List.getD_eq_getElem?_getD, List.getElem?_eq_getElem hj]
  exact List.getElem_mem hj
/-! ### Worlds -/
def Dis (u v : Value) : Prop := ∀ b, u.ownBlock = some b → v.ownBlock ≠ some b
theorem Dis.symm {u v : Value} (h : Dis u v) : Dis v u := fun b hb hu => h b hu hb
theorem Nm.low {w : World} {B B' : Nat} {v : Value} {ns : List ByteArray} (h : Nm w B v ns) (hB : B' ≤ B) : Nm w B' v ns :=
  ⟨h.1, h.2.elim .inl fun ⟨g', cap, cur, e, h2, h3⟩ => .inr ⟨g', cap, cur, e, Nat.le_trans hB h2, h3⟩⟩
theorem Nm.later {w W : World} {B : Nat} {v : Value} {ns : List ByteArray} (h : Nm w B v ns) (hb : Below w.heap.size w W) : Nm W B v ns :=
  h.keep (Keep.of_below (Z := fun _ => False) hb) (fun _ _ h => h)
/-- Two blocks that lie ahead of all that is made. -/
structure Two (w : World) (ca cb : Array Value) (V : World) : Prop where
  below : Below w.heap.size w V
  b0 : V.heap[w.heap.size]? = some (.cells ca 27 (0, 0))
  b1 : V.heap[w.heap.size + 1]? = some (.cells cb 27 (0, 0))
theorem Two.later {w V W : World} {ca cb : Array Value} (h : Two w ca cb V) (hb : Below V.heap.size V W) : Two w ca cb W :=
  ⟨h.below.trans (hb.mono h.below.size), (hb.block _ (lt_of_block h.b0)).trans h.b0, (hb.block _ (lt_of_block h.b1)).trans h.b1⟩
theorem Two.lt {w V : World} {ca cb : Array Value} (h : Two w ca cb V) : w.heap.size + 2 ≤ V.heap.size := by have := lt_of_block h.b1; omega
theorem Two.keep {w V W : World} {ca cb : Array Value} {v : Value} (h : Two w ca cb V) (k : Keep (fun _ => False) v V W) (hv : ∀ b, v.ownBlock = some b → w.heap.size + 2 ≤ b) : Two w ca cb W := by
  have hs := h.below.size
  refine ⟨⟨k.os.trans h.below.os, k.tape.trans h.below.tape, k.output.trans h.below.output, Nat.le_trans hs k.size, fun b hb => (k.block b (Nat.lt_of_lt_of_le hb hs) (fun h => h) (fun e => by have := hv b e; omega)).trans (h.below.block b hb)⟩, ?_, ?_⟩
  · exact (k.block _ (lt_of_block h.b0) (fun h => h) (fun e => by have := hv _ e; omega)).trans h.b0
  · exact (k.block _ (lt_of_block h.b1) (fun h => h) (fun e => by have := hv _ e; omega)).trans h.b1
/-- What two calls leave, one after another. -/
theorem two_met {V0 V1 W2 V3 W4 : World} {u v : Value} {ns ms : List ByteArray} {z : Nat} (hz : z ≤ V0.heap.size) (h1 : Below V0.heap.size V0 V1) (n1 : Nm W2 V1.heap.size u ns) (k2 : Below V1.heap.size V1 W2)
    (h3 : Below W2.heap.size W2 V3) (n3 : Nm W4 V3.heap.size v ms) (k4 : Below V3.heap.size V3 W4) :
    Nm W4 z u ns ∧ Nm W4 z v ms ∧ Dis u v ∧ Below V0.heap.size V0 W4 ∧ (∀ b, u.ownBlock = some b → V0.heap.size ≤ b) ∧ (∀ b, v.ownBlock = some b → V0.heap.size ≤ b) := by
  have s1 := h1.size; have s2 := k2.size; have s3 := h3.size
  refine ⟨((n1.later h3).later k4).low (by omega), n3.low (by omega), fun b hb hv => ?_, (h1.trans (k2.mono s1)).trans ((h3.trans (k4.mono s3)).mono (by omega)), fun b hb => ?_, fun b hb => ?_⟩
  · have a1 := n1.high hb
    have a3 := n3.high hv
    omega
  · have a1 := n1.high hb; omega
  · have a3 := n3.high hb; omega
/-- Four rows, of which two may grow. -/
structure Quad (w : World) (ca cb : Array Value) (W : World) (a : Value) (xa : List ByteArray) (b : Value) (xb : List ByteArray) (c : Value) (xc : List ByteArray) (d : Value) (xd : List ByteArray) : Prop where
  two : Two w ca cb W
  na : Nm W (w.heap.size + 2) a xa
  nb : Nm W (w.heap.size + 2) b xb
  nc : Nm W (w.heap.size + 2) c xc
  nd : Nm W (w.heap.size + 2) d xd
  ab : Dis a b
  ac : Dis a c
  ad : Dis a d
  bc : Dis b c
  bd : Dis b d
theorem Quad.swap {w : World} {ca cb : Array Value} {W : World} {a b c d : Value} {xa xb xc xd : List ByteArray} (h : Quad w ca cb W a xa b xb c xc d xd) : Quad w ca cb W b xb a xa d xd c xc :=
  ⟨h.two, h.nb, h.na, h.nd, h.nc, h.ab.symm, h.bd, h.bc, h.ad, h.ac⟩
theorem Quad.later {w : World} {ca cb : Array Value} {W V : World} {a b c d : Value} {xa xb xc xd : List ByteArray} (h : Quad w ca cb W a xa b xb c xc d xd) (hb : Below W.heap.size W V) : Quad w ca cb V a xa b xb c xc d xd :=
  ⟨h.two.later hb, h.na.later hb, h.nb.later hb, h.nc.later hb, h.nd.later hb, h.ab, h.ac, h.ad, h.bc, h.bd⟩
theorem Quad.grow {w : World} {ca cb : Array Value} {W V : World} {a b c d a' : Value} {xa xb xc xd xa' : List ByteArray} (h : Quad w ca cb W a xa b xb c xc d xd) (k : Keep (fun _ => False) a W V) (hn : Nm V (w.heap.size + 2) a' xa')
    (hv : a'.ownBlock = a.ownBlock ∨ a'.ownBlock = some W.heap.size) : Quad w ca cb V a' xa' b xb c xc d xd := by
  have hd : ∀ {x : Value} {xs : List ByteArray}, Nm W (w.heap.size + 2) x xs → Dis a x → Dis a' x := fun {x xs} hx hd g hg hx' => by
    rcases hv with e | e
    · exact hd g (e ▸ hg) hx'
    · rw [e] at hg
      injection hg with hg
      have := (hx.high hx').2
      omega
  have hf : ∀ {x : Value} {xs : List ByteArray}, Nm W (w.heap.size + 2) x xs → Dis a x → Nm V (w.heap.size + 2) x xs := fun hx hd => hx.far k (fun g hg => ⟨fun h => h, fun e => hd g e hg⟩)
  exact ⟨h.two.keep k (fun g hg => (h.na.high hg).1), hn, hf h.nb h.ab, hf h.nc h.ac, hf h.nd h.ad, hd h.nb h.ab, hd h.nc h.ac, hd h.nd h.ad, h.bc, h.bd⟩
theorem quad_of {w : World} {ca cb : Array Value} {W V0 V4 : World} {a b c d : Value} {xa xb xc xd : List ByteArray} (na : Nm W (w.heap.size + 2) a xa) (nb : Nm W (w.heap.size + 2) b xb) (hab : Dis a b) (h0 : W.heap.size ≤ V0.heap.size) (hb : Below W.heap.size W V4) (two : Two w ca cb V4)
    (hm : Nm V4 (w.heap.size + 2) c xc ∧ Nm V4 (w.heap.size + 2) d xd ∧ Dis c d ∧ Below V0.heap.size V0 V4 ∧ (∀ g, c.ownBlock = some g → V0.heap.size ≤ g) ∧ (∀ g, d.ownBlock = some g → V0.heap.size ≤ g)) : Quad w ca cb V4 a xa b xb c xc d xd :=
  ⟨two, na.later hb, nb.later hb, hm.1, hm.2.1, hab, fun g hg hc => by have := (na.high hg).2; have := hm.2.2.2.2.1 g hc; omega, fun g hg hc => by have := (na.high hg).2; have := hm.2.2.2.2.2 g hc; omega,
    fun g hg hc => by have := (nb.high hg).2; have := hm.2.2.2.2.1 g hc; omega, fun g hg hc => by have := (nb.high hg).2; have := hm.2.2.2.2.2 g hc; omega⟩
/-- One text more. -/
theorem quad_append {w : World} {ca cb : Array Value} {wr : World} {a b c d : Value} {xa xb xc xd : List ByteArray} {x : ByteArray} {ops : Array Oper} {rest : List Oper} {o : Oper} {ac : Act} {Q : Exit → Act → World → Prop} (hgd : o.guard = none) (s y : Operand)
    (ho : o.op = .call { callee := .builtin .append, args := #[s, y], argTypes := #[39, 39] })
    (h : Quad w ca cb wr a xa b xb c xc d xd) (hs : ac.eval s = a) (L : Nat) (hy : ac.eval y = .slice (some ⟨L, 0, none⟩) 1 1) (hL : wr.cell? ⟨L, 0, none⟩ = some (.string x)) (hn : xa.length ≤ 90000)
    (hQ : ∀ v' w', Quad w ca cb w' v' (xa ++ [x]) b xb c xc d xd → wpList Tryd.prog ops Q rest (ac.put o.dst v') w') : wpList Tryd.prog ops Q (o :: rest) ac wr := by
  obtain ⟨i0, hi, hz0, hz1, hz2⟩ := info_parts infoS
  have hnews : ∀ j u, ([.string x] : List Value)[j]? = some u → wr.cell? ((⟨L, 0, none⟩ : Addr).add j) = some u := by
    intro j u hj
    match j, hj with
    | 0, hj =>
      have hadd : (⟨L, 0, none⟩ : Addr).add 0 = ⟨L, 0, none⟩ := by unfold Addr.add; split <;> simp_all
      rw [hadd, hL]
      simpa using hj
  have hlen : ∀ v' w' (B : Nat), w'.ownsRow B 9 1 v' (xa.length + 1) (xa.map Value.string ++ [.string x]) → Nm w' B v' (xa ++ [x]) := by
    intro v' w' B h
    unfold Nm
    rw [List.length_append, List.map_append]
    exact h
  have hlt := h.two.lt
  exact wpList_append_keep wr hgd s y 39 39 ho (w.heap.size + 2) 9 9 i0 (.string ⟨#[]⟩) 16 Tryd.underlying39 Tryd.underlying39 hi hz0 hz1 hz2 rfl a xa.length _ hs h.na ⟨L, 0, none⟩ 1 1 [.string x] hy rfl hnews (by intro u hu; rw [List.mem_singleton] at hu; subst hu; rfl) (by unfold maxLen; omega) (by omega) (by omega) (by omega)
    (fun v' w' hown hk hv => hQ v' w' (h.grow hk (hlen v' w' _ hown) hv))
end Scope
end Go.Proofs.YtkcadkjpneoobaaDoor
