import Derived.Test.YtkfkpjngiffamaaGreatDoorGC21
import Derived.Test.YtkfkpjngiffamaaGreatDoorGC09
import Derived.Test.YtkfkpjngiffamaaGreatDoorGC15
import Derived.Test.YtkfkpjngiffamaaGreatDoorGC07
import Derived.Test.YtkfkpjngiffamaaGreatDoorGC04
import Derived.Laws.StructEq
import Derived.Test.YtkfkpjngiffamaaGreatDoorGC06
import Derived.Test.YtkfkpjngiffamaaGreatDoorGC05
import Derived.Test.YtkfkpjngiffamaaGreatDoorGC08
import Derived.StillTailTactics
namespace Go.Proofs.YtkfkpjngiffamaaGreatDoor
open Go.RowKit
set_option linter.unusedVariables false
set_option linter.unusedSimpArgs false
namespace Disp
open Aterm
open Effect (lt_of_block heap_alloc_new)
open Rt (box_new box_at below_then)
open Types (Reads veil veil_to veil_at veil_own veil_seen)

theorem ri_reads {w W : World} {n : Nat} {p : Option Addr} {l : List Int} (h : Effect.RdI w n p l) (hb : Reads w W) : Effect.RdI W n p l :=
 ⟨h.len, h.at_.imp id (fun ⟨b, o, hp, hc⟩ => ⟨b, o, hp, fun i hi => hb _ _ (hc i hi)⟩), h.ok⟩
theorem hd_reads {w W : World} {h : Hd} {v : V} (k : HdIs w h v) (hb : Reads w W) : HdIs W h v :=
 ⟨k.hd, k.rho, ri_reads k.rhos hb, k.rcap, Rt.EffIs.reads k.eff hb, k.eok, Rt.RtIs.reads' k.ty hb, Rt.RtIs.reads' k.re hb⟩
theorem kids_reads {w W : World} {p : Option Addr} {ts : List AT} (h : Aterm.Kids w p ts) (hb : Reads w W) : Aterm.Kids W p ts := by
 induction h with
 | nokids p => exact .nokids p
 | atkids b o ts v hh hc hl hk ih => exact .atkids b o ts v (fun i hi => hd_reads (hh i hi) hb) (fun i hi j x hv => hb _ _ (hc i hi j x hv)) hl (fun i hi => ih i hi)
theorem at_reads {w W : World} {h : Hd} {v : V} {l : Nat} {t : AT} (k : AtIs w h v l t) (hb : Reads w W) : AtIs W h v l t := ⟨k.head, k.len, hd_reads k.ok hb, k.cap, kids_reads k.kids hb⟩
theorem flat_reads {w W : World} (hb : Reads w W) : ∀ {ts : List AT} {xs : List Value}, Aterm.Flat w xs ts → Aterm.Flat W xs ts
 | [], xs, h => h
 | t :: ts, xs, ⟨q, zs, he, hT, h⟩ => ⟨q, zs, he, at_reads hT hb, flat_reads hb h⟩
theorem kids_flat {W : World} {b : Nat} {xs : List Value} {ts : List AT} (hc : ∀ j u, xs[j]? = some u → W.cell? ⟨b, j, none⟩ = some u) (hf : Aterm.Flat W xs ts) : Aterm.Kids W (some ⟨b, 0, none⟩) ts := by
 have each : ∀ i, ∃ r : V, i < ts.length → AtIs W (tget ts i).h r (tget ts i).ks.length (tget ts i) ∧ ∀ j v, (acells (tget ts i).h r (tget ts i).ks.length)[j]? = some v → xs[i * 19 + j]? = some v := by
  intro i
  by_cases hi : i < ts.length
  ·obtain ⟨q, h1, h2⟩ := hf.get i hi
   exact ⟨q, fun _ => ⟨h1, h2⟩⟩
  ·exact ⟨v0, fun h => absurd h hi⟩
 obtain ⟨R, hR⟩ := Classical.axiomOfChoice each
 refine .atkids b 0 ts R (fun i hi => (hR i hi).1.ok) (fun i hi j v hv => ?_) (fun i hi => (hR i hi).1.cap) (fun i hi => (hR i hi).1.kids)
 rw [Nat.zero_add]
 exact hc _ _ ((hR i hi).2 j v hv)

def lowA (L M i : Nat) : Bool := decide (i < L ∨ M ≤ i)
def seenA (L B : Nat) (v : Value) (i : Nat) : Bool := decide (i < L ∨ (B ≤ i ∧ v.ownBlock ≠ some i))
theorem lowA_iff {L M i : Nat} : lowA L M i = true ↔ i < L ∨ M ≤ i := by unfold lowA; exact decide_eq_true_iff
theorem seenA_iff {L B i : Nat} {v : Value} : seenA L B v i = true ↔ i < L ∨ (B ≤ i ∧ v.ownBlock ≠ some i) := by unfold seenA; exact decide_eq_true_iff
def RowA (L B : Nat) (v : Value) (ts : List AT) (W : World) : Prop := ∃ xs, W.ownsRow B 31 19 v ts.length xs ∧ Aterm.Flat (veil (seenA L B v) W) xs ts
theorem RowA.nil (L B : Nat) (W : World) : RowA L B (.slice none 0 0) [] W := ⟨[], World.ownsRow_nil _ _ _ _, rfl⟩
theorem RowA.below {L B : Nat} {v : Value} {ts : List AT} {W W' : World} (h : RowA L B v ts W) (hb : Below W.heap.size W W') : RowA L B v ts W' := by
 obtain ⟨xs, h1, h2⟩ := h
 exact ⟨xs, Aterm.own_below h1 hb, flat_reads (veil_to fun b hbl hp => ⟨hp, hb.block b hbl⟩) h2⟩
theorem RowA.slice {L B : Nat} {v : Value} {ts : List AT} {W : World} (h : RowA L B v ts W) : ∃ a c, v = .slice a ts.length c ∧ c ≤ maxLen ∧ ts.length ≤ c := by
 obtain ⟨xs, h1, _⟩ := h; exact Aterm.own_cap h1
theorem RowA.off {L B : Nat} {v : Value} {ts : List AT} {W W' : World} (h : RowA L B v ts W) (hb : ∀ b, b < L ∨ B ≤ b → W'.heap[b]? = W.heap[b]?) : RowA L B v ts W' := by
 obtain ⟨xs, h1, h2⟩ := h
 refine ⟨xs, ⟨h1.1, h1.2.imp id ?_⟩, flat_reads (veil_to fun b hbl hp => ⟨hp, hb b ((seenA_iff.1 hp).imp id And.left)⟩) h2⟩
 rintro ⟨g, cap, cur, rfl, hg, hh, r⟩
 exact ⟨g, cap, cur, rfl, hg, (hb g (.inr hg)).trans hh, r⟩
theorem rowA_step {L B M : Nat} {v v' : Value} {W W3 : World} {ts : List AT} {xs : List Value} {t : AT} {hd : Hd} {q : V} {l : Nat}
  (ho : W.ownsRow B 31 19 v ts.length xs) (hf : Aterm.Flat (veil (seenA L B v) W) xs ts) (hT : AtIs (veil (lowA L M) W) hd q l t) (hL : L ≤ B) (hM : B ≤ M) (hg : ∀ g, v.ownBlock = some g → B ≤ g ∧ g < M)
  (ho3 : W3.ownsRow B 31 19 v' (ts.length + 1) (xs ++ acells hd q l)) (hgr : W.grownBy W3 v.ownBlock) (hat : v'.ownBlock = v.ownBlock ∨ v'.ownBlock = some W.heap.size) : RowA L B v' (ts ++ [t]) W3 := by
 refine ⟨xs ++ acells hd q l, by rw [List.length_append]; exact ho3, ?_⟩
 have key : ∀ b, b < W.heap.size → (b < L ∨ (B ≤ b ∧ v.ownBlock ≠ some b)) → seenA L B v' b = true ∧ W3.heap[b]? = W.heap[b]? := fun b hb h => by
  have hno : v.ownBlock ≠ some b := by
   rcases h with h | h
   ·intro e; have := (hg b e).1; omega
   ·exact h.2
  refine ⟨seenA_iff.2 (h.imp id (fun h => ⟨h.1, ?_⟩)), hgr.block b hb (fun e => hno e.symm)⟩
  rcases hat with e | e <;> rw [e]
  ·exact h.2
  ·intro e2; injection e2 with e2; omega
 refine (flat_reads (veil_to fun b hb hp => key b hb (seenA_iff.1 hp)) hf).append (Aterm.Flat.one (at_reads hT (veil_to fun b hb hp => key b hb ?_)))
 rcases lowA_iff.1 hp with h | h
 ·exact .inl h
 ·exact .inr ⟨by omega, fun e => by have := (hg b e).2; omega⟩
theorem RowA.kids {L B : Nat} {a : Option Addr} {c : Nat} {ts : List AT} {W : World} (h : RowA L B (.slice a ts.length c) ts W) : Aterm.Kids (veil (lowA L B) W) a ts := by
 obtain ⟨xs, h1, h2⟩ := h
 by_cases h0 : ts.length = 0
 ·rw [List.length_eq_zero_iff.1 h0]; exact .nokids _
 ·rcases h1.2 with ⟨_, h0'⟩ | ⟨g, cap, cur, hv, hg, hh, h3, h4, h5, h6⟩
  ·omega
  ·injection hv with hv1 hv2 hv3
   subst hv1
   have hin : Reads (veil (seenA L B (.slice (some ⟨g, 0, none⟩) ts.length c)) W) (veil (lowA L B) W) := veil_to fun b hb hp => ⟨lowA_iff.2 ((seenA_iff.1 hp).imp id And.left), rfl⟩
   refine kids_flat (fun j u hu => ?_) (flat_reads hin h2)
   have hc := h1.cells (g := g) rfl j u hu
   rw [Addr.add_lit] at hc
   rw [World.cell?_of_block (veil_at (lowA_iff.2 (.inr hg)))]
   simpa using hc
end Disp
end Go.Proofs.YtkfkpjngiffamaaGreatDoor
namespace Go.Proofs.YtkfkpjngiffamaaGreatDoor
open Go.RowKit
set_option linter.unusedVariables false
namespace Types

def NoBl (x : List UInt8) : Prop := (32 : UInt8) ∉ x
theorem cut_first : ∀ {x y u v : List UInt8}, NoBl x → NoBl y → (u = [] ∨ ∃ u', u = 32 :: u') → (v = [] ∨ ∃ v', v = 32 :: v') → x ++ u = y ++ v → x = y ∧ u = v
 | [], [], u, v, _, _, _, _, h => ⟨rfl, h⟩
 | [], b :: y, u, v, _, hy, hu, _, h => by
  rcases hu with rfl | ⟨u', rfl⟩
  ·simp at h
  ·simp only [List.nil_append, List.cons_append, List.cons.injEq] at h
   exact absurd (by rw [← h.1]; exact List.mem_cons_self) hy
 | a :: x, [], u, v, hx, _, _, hv, h => by
  rcases hv with rfl | ⟨v', rfl⟩
  ·simp at h
  ·simp only [List.nil_append, List.cons_append, List.cons.injEq] at h
   exact absurd (by rw [h.1]; exact List.mem_cons_self) hx
 | a :: x, b :: y, u, v, hx, hy, hu, hv, h => by
  simp only [List.cons_append, List.cons.injEq] at h
  obtain ⟨h1, h2⟩ := cut_first (fun e => hx (List.mem_cons_of_mem _ e)) (fun e => hy (List.mem_cons_of_mem _ e)) hu hv h.2
  exact ⟨by rw [h.1, h1], h2⟩
theorem tail_shape : ∀ r : List (List UInt8), Lib.joinTail [32] r = [] ∧ r = [] ∨ ∃ x q, r = x :: q ∧ Lib.joinTail [32] r = 32 :: (x ++ Lib.joinTail [32] q)
 | [] => .inl ⟨by simp [Lib.joinTail], rfl⟩
 | x :: q => .inr ⟨x, q, rfl, by simp [Lib.joinTail]⟩
theorem tail_inj : ∀ (r q : List (List UInt8)), (∀ x ∈ r, NoBl x) → (∀ x ∈ q, NoBl x) → Lib.joinTail [32] r = Lib.joinTail [32] q → r = q
 | [], q, _, _, h => by
  rcases tail_shape q with ⟨_, rfl⟩ | ⟨x, q', rfl, e⟩
  ·rfl
  ·rw [e] at h; simp [Lib.joinTail] at h
 | x :: r, q, hr, hq, h => by
  rcases tail_shape q with ⟨_, rfl⟩ | ⟨y, q', rfl, e⟩
  ·simp [Lib.joinTail] at h
  ·have e1 : Lib.joinTail [32] (x :: r) = 32 :: (x ++ Lib.joinTail [32] r) := by simp [Lib.joinTail]
   rw [e, e1] at h
   simp only [List.cons.injEq, true_and] at h
   have sh : ∀ r : List (List UInt8), Lib.joinTail [32] r = [] ∨ ∃ u', Lib.joinTail [32] r = 32 :: u' := fun r => by
    rcases tail_shape r with ⟨h, _⟩ | ⟨_, _, _, h⟩
    ·exact .inl h
    ·exact .inr ⟨_, h⟩
   obtain ⟨h1, h2⟩ := cut_first (hr x List.mem_cons_self) (hq y List.mem_cons_self) (sh r) (sh q') h
   rw [h1, tail_inj r q' (fun z hz => hr z (List.mem_cons_of_mem _ hz)) (fun z hz => hq z (List.mem_cons_of_mem _ hz)) h2]
theorem jb_inj {a b : List ByteArray} (ha : ∀ x ∈ a, NoBl (bl x)) (hb : ∀ x ∈ b, NoBl (bl x)) (na : a ≠ []) (nb : b ≠ []) (h : jb a = jb b) : a = b := by
 have h1 : bl (jb a) = bl (jb b) := by rw [h]
 rw [bl_jb, bl_jb] at h1
 have key : a.map bl = b.map bl := by
  cases a with
  | nil => exact absurd rfl na
  | cons x r =>
   cases b with
   | nil => exact absurd rfl nb
   | cons y q =>
    rw [List.map_cons, List.map_cons, Lib.join_cons, Lib.join_cons] at h1
    have sh : ∀ r : List (List UInt8), Lib.joinTail [32] r = [] ∨ ∃ u', Lib.joinTail [32] r = 32 :: u' := fun r => by
     rcases tail_shape r with ⟨h, _⟩ | ⟨_, _, _, h⟩
     ·exact .inl h
     ·exact .inr ⟨_, h⟩
    obtain ⟨h2, h3⟩ := cut_first (ha x List.mem_cons_self) (hb y List.mem_cons_self) (sh _) (sh _) h1
    have h4 := tail_inj (r.map bl) (q.map bl) (fun z hz => by obtain ⟨u, hu, rfl⟩ := List.mem_map.1 hz; exact ha u (List.mem_cons_of_mem _ hu)) (fun z hz => by obtain ⟨u, hu, rfl⟩ := List.mem_map.1 hz; exact hb u (List.mem_cons_of_mem _ hu)) h3
    rw [List.map_cons, List.map_cons, h2, h4]
 have inj : ∀ (a b : List ByteArray), a.map bl = b.map bl → a = b := by
  intro a
  induction a with
  | nil => intro b h; cases b with
   | nil => rfl
   | cons y q => simp at h
  | cons x r ih =>
   intro b h
   cases b with
   | nil => simp at h
   | cons y q =>
    simp only [List.map_cons, List.cons.injEq] at h
    rw [bl_inj h.1, ih q h.2]
 exact inj a b key

inductive Shape : Ty → Prop where
 | int : Shape (.node ⟨1, 0⟩ [])
 | pair (a b : Ty) : Shape a → Shape b → Shape (.node ⟨2, 0⟩ [a, b])
 | ref (a : Ty) : Shape a → Shape (.node ⟨3, 0⟩ [a])
 | fn (a b : Ty) : Shape a → Shape b → Shape (.node ⟨4, 0⟩ [a, b])
theorem d1 : wInt ≠ wOpen := by decide
theorem d2 : wInt ≠ wRef := by decide
theorem d3 : wOpen ≠ wRef := by decide
theorem d4 : wStar ≠ wShut := by decide
theorem d5 : wStar ≠ wArrow := by decide
theorem d6 : wShut ≠ wArrow := by decide
end Types
end Go.Proofs.YtkfkpjngiffamaaGreatDoor
namespace Go.Proofs.YtkfkpjngiffamaaGreatDoor
open Go.RowKit Go.Lib
set_option linter.unusedVariables false
set_option linter.unusedSimpArgs false
namespace Aterm

def headB (a b : Term.Hd) : Bool := decide (a.k = b.k ∧ a.op = b.op ∧ a.pl = b.pl ∧ a.n = b.n ∧ a.name = b.name ∧ a.arg = b.arg ∧ a.exn = b.exn)
theorem bytes_inj {x y : ByteArray} : x.toList = y.toList ↔ x = y := ⟨Effect.toList_inj, fun h => by rw [h]⟩
theorem ite_step {p : Prop} [Decidable p] {X : Result Bool} {b : Bool} {w : World} (h : X = .ok b w) : (if p then X else .ok false w) = .ok (decide p && b) w := by
 by_cases hp : p <;> simp [hp, h]
theorem hd_eql (a b : Term.Hd) (w : World) : (Op.equalIn 10000 23 (.agg (Term.hcells a).toArray) (.agg (Term.hcells b).toArray)).run Tryz.prog w = .ok (headB a b) w := by
 have u5 := Tryz.underlying5
 have u3 := Tryz.underlying3
 have u9 := Tryz.underlying9
 have hS : Tryz.prog.underlying 23 = some (.struct (Tryz.prog.fieldsOf 23)) := by kernel_rfl
 have hp : Tryz.prog.stoodInHeld 23 = false := by kernel_rfl
 obtain ⟨k, op, pl, n, nm, ar, ex⟩ := a
 obtain ⟨k', op', pl', n', nm', ar', ex'⟩ := b
 simp only [Term.hcells, headB]
 rw [show (10000 : Nat) = 9999 + 1 from rfl, run_equalIn_agg w 9999 23 _ _ hS hp]
 simp only [Program.fieldsOf, Tryz.underlying23]
 go_simp
 simp only [bytes_inj]
 refine ite_step (ite_step (ite_step (ite_step (ite_step (ite_step ?_)))))
 split
 ·rename_i h; simp [h]
 ·rename_i h; simp [h]
theorem hd_neq (a b : Term.Hd) (w : World) : (binOp .neq 23 (.agg (Term.hcells a).toArray) (.agg (Term.hcells b).toArray)).run Tryz.prog w = .ok (.bool (!headB a b)) w := by
 rw [run_neq_struct, hd_eql]
 rfl
theorem neq_hd {ops : Array Oper} {rest : List Oper} {op : Oper} {a : Act} {w : World} {Q : Exit → Act → World → Prop} (hgd : op.guard = none) (x y : Operand) (t2 : TypeId) (ho : op.op = .binOp .neq 23 x y t2)
  (A B : Term.Hd) (hx : a.eval x = .agg (Term.hcells A).toArray) (hy : a.eval y = .agg (Term.hcells B).toArray)
  (k : wpList Tryz.prog ops Q rest (a.put op.dst (.bool (!headB A B))) w) : wpList Tryz.prog ops Q (op :: rest) a w :=
 wpList_plain hgd fun K hK => by
  have hg : ∀ u v, (eqGuard .neq 23 u v (.agg (Term.hcells A).toArray) (.agg (Term.hcells B).toArray)).run Tryz.prog w = .ok () w := fun u v => (GuardAt.agg (P := Tryz.prog) (T := 23) (fun a : Term.Hd => (Term.hcells a).toArray) (by kernel_rfl)) .neq u v A B w
  unfold Oper.wp execOp
  simp only [ho, hx, hy, Sem.run_bind, Sem.run_pure, Result.andThen_ok, hg, hd_neq]
  exact hK _ _ k
end Aterm
end Go.Proofs.YtkfkpjngiffamaaGreatDoor
namespace Go.Proofs.YtkfkpjngiffamaaGreatDoor
open Go.RowKit
set_option linter.unusedVariables false
set_option linter.unusedSimpArgs false
namespace Aterm
open Effect (RdI nget nget_at nget_mem ret_bool)

theorem ints_ext {l k : List Int} (hlen : l.length = k.length) (h : ∀ i, i < l.length → nget l i = nget k i) : l = k := by
 refine List.ext_getElem? fun i => ?_
 rcases Nat.lt_or_ge i l.length with hi | hi
 ·rw [nget_at hi, nget_at (by omega), h i hi]
 ·rw [List.getElem?_eq_none hi, List.getElem?_eq_none (by omega)]
set_option maxRecDepth 100000 in
set_option maxHeartbeats 6400000 in
theorem equalInts_walk {n c m d : Nat} {a b : Option Addr} {l k : List Int} {w : World} (h : RdI w n a l) (h2 : RdI w m b k) (hn : n ≤ 100000) (hm : m ≤ 100000) : Calls Tryz.prog 29 #[.slice a n c, .slice b m d] w fun e w' => e = .returned (.bool (decide (l = k))) ∧ Below w.heap.size w w' := by
 have mixed : Tryz.prog.follows .mixedOrders = true := by kernel_rfl
 have hnl := h.len; have hmk := h2.len
 have H := Lib.hid h; have H2 := Lib.hid h2
 clear h h2
 by_cases hnm : n = m
 ·subst hnm
  have HN := Lib.hid hnl; have HM := Lib.hid hmk
  clear hnl hmk
  go_enter Tryz.func29, Tryz.ntmps29
  go_wp2_with (fail)
  go_loopg [5, 13] n (fun gh _ i wr => ∃ j q : Nat, j ≤ n ∧ n - j ≤ gh ∧ i = .int .i64 (j : Int) ∧ wr = w.drewN q ∧ Hid (∀ i, i < j → nget l i = nget k i))
  case atStart => exact ⟨0, 0, Nat.zero_le _, by omega, rfl, rfl, Lib.hid (fun i hi => by omega)⟩
  case round =>
   obtain ⟨j, q, hj, hgh, rfl, rfl, HE⟩ := hrel
   by_cases hlt : j < n
   ·have hjl : j < l.length := by rw [HN.out]; exact hlt
    have hjk : j < k.length := by rw [HM.out]; exact hlt
    obtain ⟨b1, o1, rfl, e0⟩ := H.out.get j hjl
    obtain ⟨b2, o2, rfl, e1⟩ := H2.out.get j hjk
    have hst : nget l j = nget k j → ∀ i, i < j + 1 → nget l i = nget k i := fun he i hi => by
     rcases Nat.lt_or_ge i j with h | h
     ·exact HE.out i h
     ·rw [show i = j from by omega]; exact he
    have hno : nget l j ≠ nget k j → false = decide (l = k) := fun he => by
     rw [eq_comm, decide_eq_false_iff_not]
     intro h
     exact he (by rw [h])
    have HST := Lib.hid hst; have HNO := Lib.hid hno
    clear hst hno
    generalize nget l j = x at *
    generalize nget k j = y at *
    by_cases hxy : x = y
    ·subst hxy
     have hxx : (x == x) = true := by simp
     have HS := Lib.hid (HST.out rfl)
     clear hjl hjk HST HNO
     go_wp2_with (fail)
     go_region_o
     clear hxx e0 e1
     go_wp2_with (fail)
     go_roundg (n - (j + 1))
     case measure => omega
     case rel => exact ⟨j + 1, q + 1, by omega, by omega, by go_num, rfl, HS⟩
    ·have hxx : (x == y) = false := by simpa using hxy
     have hyy : (x != y) = true := by simpa using hxy
     have HS := Lib.hid (HNO.out hxy)
     clear hjl hjk HST HNO hxy
     go_wp2_with (fail)
     go_region_o
     clear e0 e1
     go_wp2_with (fail)
     go_ret
     exact ⟨ret_bool HS.out, ⟨rfl, rfl, rfl, Nat.le_refl _, fun _ _ => rfl⟩⟩
   ·obtain rfl : j = n := by omega
    have hlk : l = k := ints_ext (by rw [HN.out, HM.out]) (fun i hi => HE.out i (by rw [HN.out] at hi; exact hi))
    have HLK := Lib.hid (show true = decide (l = k) from (decide_eq_true hlk).symm)
    clear hlk
    go_wp2_with (fail)
    go_ret
    exact ⟨ret_bool HLK.out, ⟨rfl, rfl, rfl, Nat.le_refl _, fun _ _ => rfl⟩⟩
 ·have HLK := Lib.hid (show false = decide (l = k) from by
   rw [eq_comm, decide_eq_false_iff_not]
   intro h
   rw [h] at hnl
   omega)
  clear hnl hmk
  go_enter Tryz.func29, Tryz.ntmps29
  go_wp2_with (fail)
  go_ret
  exact ⟨ret_bool HLK.out, ⟨rfl, rfl, rfl, Nat.le_refl _, fun _ _ => rfl⟩⟩
end Aterm
end Go.Proofs.YtkfkpjngiffamaaGreatDoor

namespace Go.Proofs.YtkfkpjngiffamaaGreatDoor
open Go.RowKit
set_option linter.unusedVariables false
set_option linter.unusedSimpArgs false
namespace Effect

def withinB (l k : List At) : Bool := l.all fun x => !atomB x || decide (x ∈ k)
set_option maxRecDepth 100000 in
set_option maxHeartbeats 6400000 in
theorem refWithin_walk {n c m d : Nat} {a b : Option Addr} {l k : List At} {w : World} (h : Rd w n a l) (h2 : Rd w m b k) (hn : n ≤ 100000) (hm : m ≤ 100000) : Calls Tryz.prog 30 #[.slice a n c, .slice b m d] w fun e w' => e = .returned (.bool (withinB l k)) ∧ Below w.heap.size w w' := by
 have H := Lib.hid h; have H2 := Lib.hid h2
 clear h h2
 go_enter Tryz.func30, Tryz.ntmps30
 go_wp2_with (fail)
 go_loopw [5, 8] (fun _ i wr => ∃ j : Nat, j ≤ n ∧ i = .int .i64 (j : Int) ∧ Hid (Below w.heap.size w wr) ∧ Hid (withinB (l.take j) k = true)) (fun _ i _ => n - (intOf i).toNat)
 case atStart => exact ⟨0, Nat.zero_le _, rfl, Lib.hid (Below.refl _ _), Lib.hid (by simp [withinB])⟩
 case round =>
  obtain ⟨j, hj, rfl, HS, HA⟩ := hrel
  by_cases hlt : j < n
  ·have hjl : j < l.length := by rw [H.out.len]; exact hlt
   obtain ⟨b1, o, rfl, a0, a1, a2⟩ := (H.out.at_.below HS.out).get j hjl
   have hx := H.out.ok _ (aget_mem hjl)
   have htk := at_take l j hjl
   have hmem := aget_mem hjl
   have hlt0 : b1 < wr.heap.size := World.block_lt_of_cell? wr _ a0
   generalize aget l j = x at *
   have HTK := Lib.hid htk; have HMEM := Lib.hid hmem
   have HAT := Lib.hid (refAtom_walk x wr hx)
   have HIN := Lib.hid fun (W : World) (hW : Below wr.heap.size wr W) => in_walk (c := d) ((H2.out.below HS.out).below hW) x hm
   have HC := Lib.hid (And.intro a0 (And.intro a1 a2))
   clear htk hmem hjl hx
   go_wp2_with (fail)
   refine HAT.out.mono ?_
   rintro e w1 ⟨rfl, hb1⟩
   obtain ⟨a0, a1, a2⟩ := HC.out
   have a0 := (hb1.cell (p := ⟨b1, _, none⟩) hlt0).trans a0
   have a1 := (hb1.cell (p := ⟨b1, _, none⟩) hlt0).trans a1
   have a2 := (hb1.cell (p := ⟨b1, _, none⟩) hlt0).trans a2
   have HI := Lib.hid (HIN.out w1 hb1)
   have HB1 := Lib.hid (below_then HS.out hb1 HS.out.size)
   clear hb1
   cases hat : atomB x
   ·have HAT2 := Lib.hid hat
    clear hat
    go_wp2_with (fail)
    go_roundw
    case rel => exact ⟨j + 1, by omega, by go_num, HB1, Lib.hid (by rw [HTK.out]; unfold withinB; rw [List.all_append]; have := HA.out; unfold withinB at this; rw [this]; simp [HAT2.out])⟩
    case measure => simp [intOf]; omega
   ·have HAT2 := Lib.hid hat
    clear hat
    go_wp2_with (fail)
    refine HI.out.mono ?_
    rintro e w2 ⟨rfl, hb2⟩
    have HB2 := Lib.hid (below_then HB1.out hb2 HB1.out.size)
    clear hb2
    by_cases hin : x ∈ k
    ·have HIN2 := Lib.hid hin
     rw [decide_eq_true hin]
     clear hin
     go_wp2_with (fail)
     go_roundw
     case rel => exact ⟨j + 1, by omega, by go_num, HB2, Lib.hid (by rw [HTK.out]; unfold withinB; rw [List.all_append]; have := HA.out; unfold withinB at this; rw [this]; simp [HIN2.out])⟩
     case measure => simp [intOf]; omega
    ·have HIN2 := Lib.hid hin
     rw [decide_eq_false hin]
     clear hin
     go_wp2_with (fail)
     go_ret
     refine ⟨ret_bool ?_, HB2.out⟩
     symm
     unfold withinB
     rw [Bool.eq_false_iff]
     intro hall
     have := List.all_eq_true.1 hall x HMEM.out
     rw [HAT2.out, decide_eq_false HIN2.out] at this
     cases this
  ·obtain rfl : j = n := by omega
   have hall := HA.out
   rw [List.take_of_length_le (by rw [H.out.len]; exact Nat.le_refl _)] at hall
   have HALL := Lib.hid hall
   clear hall
   go_wp2_with (fail)
   go_ret
   exact ⟨ret_bool HALL.out.symm, HS.out⟩
end Effect
end Go.Proofs.YtkfkpjngiffamaaGreatDoor
namespace Go.Proofs.YtkfkpjngiffamaaGreatDoor
open Go.RowKit
set_option linter.unusedVariables false
set_option linter.unusedSimpArgs false
namespace Effect

theorem within_iff (l k : List At) : withinB l k = true ↔ ∀ x ∈ l, atomB x = true → x ∈ k := by
 unfold withinB
 rw [List.all_eq_true]
 constructor
 ·intro h x hx ha
  have := h x hx
  rw [ha] at this
  simpa using this
 ·intro h x hx
  cases ha : atomB x with
  | false => rfl
  | true => simpa using h x hx ha
theorem same_iff (l k : List At) : decide (ofA l = ofA k) = (withinB l k && withinB k l) := by
 by_cases h : withinB l k = true ∧ withinB k l = true
 ·rw [h.1, h.2]
  exact decide_eq_true (of_congr fun b hb => ⟨fun h2 => (within_iff l k).1 h.1 b h2 hb, fun h2 => (within_iff k l).1 h.2 b h2 hb⟩)
 ·have e : (withinB l k && withinB k l) = false := by
   rw [Bool.eq_false_iff]
   intro h2
   exact h (Bool.and_eq_true_iff.1 h2)
  rw [e]
  refine decide_eq_false fun he => h ⟨(within_iff l k).2 fun x hx ha => ?_, (within_iff k l).2 fun x hx ha => ?_⟩
  ·have : x ∈ ofA k := by rw [← he]; exact (mem_of _ _).2 ⟨hx, ha⟩
   exact ((mem_of _ _).1 this).1
  ·have : x ∈ ofA l := by rw [he]; exact (mem_of _ _).2 ⟨hx, ha⟩
   exact ((mem_of _ _).1 this).1
end Effect
end Go.Proofs.YtkfkpjngiffamaaGreatDoor
namespace Go.Proofs.YtkfkpjngiffamaaGreatDoor
open Go.RowKit
set_option linter.unusedVariables false
set_option linter.unusedSimpArgs false
namespace Rt
open Effect (At AtOk AtsAt Rd ofA ret_i64 ret_bool withinB)

def SameOf (f : Nat) (m : Nat) : Prop := ∀ (t u : RT) (h h' : Hd) (pe pe' : Option Addr) (ne ce ne' ce' : Nat) (p p' : Option Addr) (l c l' c' : Nat) (w : World), wt t ≤ m → RtIs w h pe ne ce p l c t → RtIs w h' pe' ne' ce' p' l' c' u → allT (effB 100000) t = true → allT (effB 100000) u = true →
  Calls Tryz.prog f #[.agg #[.int .u8 h.k, .int .i64 h.r, .slice pe ne ce, .slice p l c], .agg #[.int .u8 h'.k, .int .i64 h'.r, .slice pe' ne' ce', .slice p' l' c']] w fun e w' => e = .returned (.bool (sameT t u)) ∧ Below w.heap.size w w'

theorem eff_len {w : World} {h : Hd} {pe : Option Addr} {ne ce : Nat} {p : Option Addr} {l c : Nat} {t : RT} (hT : RtIs w h pe ne ce p l c t) {n : Nat} (hi : allT (effB n) t = true) : ne ≤ n ∧ allK (effB n) t.ks = true := by
 rw [allT_eq, Bool.and_eq_true, hT.head] at hi
 exact ⟨by rw [← hT.elen]; exact (eff_iff.1 hi.1).1, hi.2⟩
set_option maxRecDepth 10000 in
set_option maxHeartbeats 12800000 in
theorem refSame_walk : ∀ m : Nat, SameOf 31 m := by
 intro m
 induction m with
 | zero => intro t u h h' pe pe' ne ce ne' ce' p p' l c l' c' w hm; have := wt_pos t; omega
 | succ m ih =>
  intro t u h h' pe pe' ne ce ne' ce' p p' l c l' c' w hm hT hU hi hi'
  have hs0 := sameT_eq t u
  rw [hT.head, hU.head, hT.len, hU.len] at hs0
  have hei := eff_len hT hi
  have hei' := eff_len hU hi'
  have hlc := cap63 hT
  have hlc' := cap63 hU
  obtain ⟨k, v, e⟩ := h
  obtain ⟨k', v', e'⟩ := h'
  have hbox : ∀ O O' : Obj, Below w.heap.size w ((w.alloc O).alloc O') := fun O O' => ((Below.refl _ _).alloc (Nat.le_refl _) O).alloc (by simp) O'
  have hW1 := fun O O' : Obj => Effect.refWithin_walk (c := ce) (d := ce') (hT.eff.below (hbox O O')).rd (hU.eff.below (hbox O O')).rd hei.1 hei'.1
  have hW2 := fun W (hb : Below w.heap.size w W) => Effect.refWithin_walk (c := ce') (d := ce) (hU.eff.below hb).rd (hT.eff.below hb).rd hei'.1 hei.1
  have HBOX := Lib.hid hbox; have HM := Lib.hid hm; have HW1 := Lib.hid hW1; have HW2 := Lib.hid hW2
  clear hm hbox hi hi' hW1 hW2
  simp only at hs0
  by_cases hk : k ≠ k'
  ·have hr : sameT t u = false := by rw [hs0]; simp [hk]
   have HR := Lib.hid hr
   have n1 : (k == k') = false := by simpa using hk
   have n2 : (k != k') = true := by simpa using hk
   clear hr hT hU ih hk hs0
   go_enter Tryz.func31, Tryz.ntmps31
   go_wp2_with (fail)
   go_ret
   exact ⟨ret_bool HR.out.symm, HBOX.out _ _⟩
  have hk' : k = k' := Classical.not_not.1 hk
  clear hk
  subst hk'
  by_cases hv : v ≠ v'
  ·have hr : sameT t u = false := by rw [hs0]; simp [hv]
   have HR := Lib.hid hr
   have n1 : (v == v') = false := by simpa using hv
   have n2 : (v != v') = true := by simpa using hv
   clear hr hT hU ih hv hs0
   go_enter Tryz.func31, Tryz.ntmps31
   go_wp2_with (fail)
   go_ret
   exact ⟨ret_bool HR.out.symm, HBOX.out _ _⟩
  have hv' : v = v' := Classical.not_not.1 hv
  clear hv
  subst hv'
  by_cases hll : l ≠ l'
  ·have hr : sameT t u = false := by rw [hs0]; simp [hll]
   have HR := Lib.hid hr
   have n1 : ((l : Int) == (l' : Int)) = false := by rw [beq_eq_false_iff_ne]; omega
   have n2 : ((l : Int) != (l' : Int)) = true := by rw [bne, n1]; rfl
   clear hr hT hU ih hs0
   go_enter Tryz.func31, Tryz.ntmps31
   go_wp2_with (fail)
   go_ret
   exact ⟨ret_bool HR.out.symm, HBOX.out _ _⟩
  have hll' : l = l' := Classical.not_not.1 hll
  clear hll
  subst hll'
  rw [Effect.same_iff] at hs0
  cases hw1 : withinB e e'
  ·have hr : sameT t u = false := by rw [hs0, hw1]; simp
   have HR := Lib.hid hr; have HWB := Lib.hid hw1
   clear hr hT hU ih hs0 hw1
   go_enter Tryz.func31, Tryz.ntmps31
   go_wp2_with (fail)
   refine (HW1.out _ _).mono ?_
   rintro e1 w1 ⟨rfl, hb1⟩
   have HB1 := Lib.hid ((HBOX.out _ _).trans (hb1.mono (HBOX.out _ _).size)); clear hb1
   rw [HWB.out]
   go_wp2_with (fail)
   go_ret
   exact ⟨ret_bool HR.out.symm, HB1.out⟩
  cases hw2 : withinB e' e
  ·have hr : sameT t u = false := by rw [hs0, hw1, hw2]; simp
   have HR := Lib.hid hr; have HWB := Lib.hid hw1; have HWC := Lib.hid hw2
   clear hr hT hU ih hs0 hw1 hw2
   go_enter Tryz.func31, Tryz.ntmps31
   go_wp2_with (fail)
   refine (HW1.out _ _).mono ?_
   rintro e1 w1 ⟨rfl, hb1⟩
   have hbb : Below (w.alloc (.cells #[.int .u8 k, .int .i64 v, .slice pe ne ce, .slice p l c] 28)).heap.size (w.alloc (.cells #[.int .u8 k, .int .i64 v, .slice pe ne ce, .slice p l c] 28)) w1 := below_then (box_new _) hb1 (by simp)
   obtain ⟨b0, b1, b2, b3⟩ := box4 (N := w.heap.size) rfl hbb
   obtain ⟨d0, d1, d2, d3⟩ := box4 (N := w.heap.size + 1) (by simp) hb1
   have HB1 := Lib.hid ((HBOX.out _ _).trans (hb1.mono (HBOX.out _ _).size)); clear hb1 hbb
   rw [HWB.out]
   go_wp2_with (fail)
   refine (HW2.out _ HB1.out).mono ?_
   rintro e2 w2 ⟨rfl, hb2⟩
   have HB2 := Lib.hid (below_then HB1.out hb2 HB1.out.size); clear hb2
   rw [HWC.out]
   go_wp2_with (fail)
   go_ret
   exact ⟨ret_bool HR.out.symm, HB2.out⟩
  have hr : sameT t u = sameK t.ks u.ks := by rw [hs0, hw1, hw2]; simp
  have HR := Lib.hid hr; have HT := Lib.hid hT; have HU := Lib.hid hU; have IH := Lib.hid ih; have HWB := Lib.hid hw1; have HWC := Lib.hid hw2; have HEI := Lib.hid (And.intro hei.2 hei'.2)
  clear hr hT hU ih hlc' hs0 hw1 hw2 hei hei'
  go_enter Tryz.func31, Tryz.ntmps31
  go_wp2_with (fail)
  refine (HW1.out _ _).mono ?_
  rintro e1 w1 ⟨rfl, hb1⟩
  have hbb : Below (w.alloc (.cells #[.int .u8 k, .int .i64 v, .slice pe ne ce, .slice p l c] 28)).heap.size (w.alloc (.cells #[.int .u8 k, .int .i64 v, .slice pe ne ce, .slice p l c] 28)) w1 := below_then (box_new _) hb1 (by simp)
  obtain ⟨b0, b1, b2, b3⟩ := box4 (N := w.heap.size) rfl hbb
  obtain ⟨d0, d1, d2, d3⟩ := box4 (N := w.heap.size + 1) (by simp) hb1
  have HB1 := Lib.hid ((HBOX.out _ _).trans (hb1.mono (HBOX.out _ _).size)); have HBA := Lib.hid hb1; clear hb1 hbb
  rw [HWB.out]
  go_wp2_with (fail)
  refine (HW2.out _ HB1.out).mono ?_
  rintro e2 w2 ⟨rfl, hb2⟩
  have hba2 := below_then HBA.out hb2 HBA.out.size
  have hbb : Below (w.alloc (.cells #[.int .u8 k, .int .i64 v, .slice pe ne ce, .slice p l c] 28)).heap.size (w.alloc (.cells #[.int .u8 k, .int .i64 v, .slice pe ne ce, .slice p l c] 28)) w2 := below_then (box_new _) hba2 (by simp)
  have HBA2 := Lib.hid hba2
  clear b0 b1 b2 b3 d0 d1 d2 d3
  obtain ⟨b0, b1, b2, b3⟩ := box4 (N := w.heap.size) rfl hbb
  obtain ⟨d0, d1, d2, d3⟩ := box4 (N := w.heap.size + 1) (by simp) hba2
  clear hb2 hbb hba2
  rw [HWC.out]
  go_wp2_with (fail)
  go_loopw [5, 46] (fun _ i wr => ∃ j : Nat, j ≤ l ∧ i = .int .i64 j ∧ Hid (sameK t.ks u.ks = sameK (t.ks.drop j) (u.ks.drop j)) ∧ Hid (Below ((w.alloc (.cells #[.int .u8 k, .int .i64 v, .slice pe ne ce, .slice p l c] 28)).alloc (.cells #[.int .u8 k, .int .i64 v, .slice pe' ne' ce', .slice p' l c'] 28)).heap.size ((w.alloc (.cells #[.int .u8 k, .int .i64 v, .slice pe ne ce, .slice p l c] 28)).alloc (.cells #[.int .u8 k, .int .i64 v, .slice pe' ne' ce', .slice p' l c'] 28)) wr)) (fun _ i _ => l - (intOf i).toNat)
  case atStart => exact ⟨0, Nat.zero_le _, rfl, Lib.hid (by rw [List.drop_zero, List.drop_zero]), HBA2⟩
  case round =>
   obtain ⟨j, hj, rfl, HSK, HW⟩ := hrel
   have hw1 : Below (w.alloc (.cells #[.int .u8 k, .int .i64 v, .slice pe ne ce, .slice p l c] 28)).heap.size (w.alloc (.cells #[.int .u8 k, .int .i64 v, .slice pe ne ce, .slice p l c] 28)) wr := below_then (box_new _) HW.out (by simp)
   obtain ⟨f0, f1, f2, f3⟩ := box4 (N := w.heap.size) rfl hw1
   obtain ⟨g0, g1, g2, g3⟩ := box4 (N := w.heap.size + 1) (by simp) HW.out
   have HWW := Lib.hid ((HBOX.out _ _).trans (HW.out.mono (by simp; omega : w.heap.size ≤ _)))
   clear hw1
   by_cases hlt : j < l
   ·have hjk : j < t.ks.length := by rw [HT.out.len]; exact hlt
    have hjk' : j < u.ks.length := by rw [HU.out.len]; exact hlt
    have hst := HSK.out
    rw [sameK_step _ _ _ hjk hjk'] at hst
    obtain ⟨b, o, q, d, qe, de, rfl, hkid, c0, c1, c2, c3⟩ := (HT.out.kids.stay HWW.out).get j hjk
    obtain ⟨b', o', q', d', qe', de', rfl, hkid', e0, e1, e2, e3⟩ := (HU.out.kids.stay HWW.out).get j hjk'
    have hwk := wts_get hjk
    have hwt := wt_ks t
    have hik := allK_get _ hjk HEI.out.1
    have hik' := allK_get _ hjk' HEI.out.2
    have HST := Lib.hid hst; have HK := Lib.hid hkid; have HK' := Lib.hid hkid'; have HIK := Lib.hid hik; have HIK' := Lib.hid hik'
    have HWK := Lib.hid hwk; have HWT := Lib.hid hwt
    clear hst hkid hkid' hwk hwt hjk hjk' hik hik' b0 b1 b2 b3 d0 d1 d2 d3
    go_wp2_with (fail)
    go_still_tail 10, (by kernel_rfl)
    go_wp2_with (fail)
    refine (IH.out (tget t.ks j) (tget u.ks j) _ _ qe qe' _ de _ de' q q' _ d _ d' _ (by have := HM.out; have := HWK.out; have := HWT.out; omega) (HK.out.below (Below.refl _ _).drew) (HK'.out.below (Below.refl _ _).drew) HIK.out HIK'.out).mono ?_
    rintro e w3 ⟨rfl, hb3⟩
    have HW3 := Lib.hid (HW.out.drew.trans (hb3.mono HW.out.size))
    have HWW3 := Lib.hid (HWW.out.drew.trans (hb3.mono HWW.out.size))
    clear hb3 f0 f1 f2 f3 g0 g1 g2 g3 c0 c1 c2 c3 e0 e1 e2 e3
    cases hs : sameT (tget t.ks j) (tget u.ks j)
    ·have hr2 := HST.out
     rw [hs, Bool.false_and] at hr2
     have HR2 := Lib.hid hr2
     clear hr2 hs
     go_wp2
     go_ret
     exact ⟨ret_bool (by rw [HR.out, HR2.out]), HWW3.out⟩
    ·have hr2 := HST.out
     rw [hs, Bool.true_and] at hr2
     have HR2 := Lib.hid hr2
     clear hr2 hs
     go_wp2
     go_roundw
     case rel => exact ⟨j + 1, by omega, by go_num, HR2, HW3⟩
     case measure => simp [intOf]; omega
   ·obtain rfl : j = l := by omega
    have hr2 := HSK.out
    rw [List.drop_eq_nil_of_le (by rw [HT.out.len]; exact Nat.le_refl _), sameK_nil] at hr2
    have HR2 := Lib.hid hr2
    clear hr2
    go_wp2
    go_ret
    exact ⟨ret_bool (by rw [HR.out, HR2.out]), HWW.out⟩
end Rt
end Go.Proofs.YtkfkpjngiffamaaGreatDoor
