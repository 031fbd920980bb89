/- Rows of tokens, and what cutting a text comes to. -/
import Derived.Test.YtlmaphaipcfppaaGreatDoorTokenMath
import Derived.Test.YtlmaphaipcfppaaGreatDoorRows
import Derived.WalkKit
import Derived.OwnWalk
import Derived.Laws.AppendOwn
namespace Go.Proofs.YtlmaphaipcfppaaGreatDoor
open Go.RowKit
namespace Token

/-- The cells of tokens. -/
def tcell (t : Tok) : List Value := [.int .u8 t.k, .string t.s, .int .i64 t.a]
def tcells (ts : List Tok) : List Value := ts.flatMap tcell
theorem tcells_snoc (ts : List Tok) (t : Tok) : tcells (ts ++ [t]) = tcells ts ++ tcell t := by simp [tcells]
theorem tcells_len : ∀ ts : List Tok, (tcells ts).length = ts.length * 3
  | [] => rfl
  | t :: ts => by
    have ih := tcells_len ts
    unfold tcells at ih ⊢
    rw [List.flatMap_cons, List.length_append, ih]
    simp [tcell]
    omega
/-- Token i. -/
def tel (ts : List Tok) (i : Nat) : Tok := ts.getD i ⟨0, ByteArray.empty, 0⟩
theorem tel_cons (t : Tok) (ts : List Tok) (i : Nat) : tel (t :: ts) (i + 1) = tel ts i := rfl
theorem tcells_get : ∀ (ts : List Tok) (i : Nat), i < ts.length → (tcells ts)[i * 3]? = some (.int .u8 (tel ts i).k) ∧ (tcells ts)[i * 3 + 1]? = some (.string (tel ts i).s) ∧ (tcells ts)[i * 3 + 2]? = some (.int .i64 (tel ts i).a)
  | [], i, h => by simp at h
  | t :: ts, 0, _ => by simp [tcells, tcell, tel]
  | t :: ts, i + 1, h => by
    have ih := tcells_get ts i (by simpa using h)
    have e : ∀ j, (tcells (t :: ts))[(i + 1) * 3 + j]? = (tcells ts)[i * 3 + j]? := by
      intro j
      unfold tcells
      rw [List.flatMap_cons, show (i + 1) * 3 + j = 3 + (i * 3 + j) from by omega]
      rw [List.getElem?_append_right (by simp [tcell])]
      simp [tcell]
    rw [tel_cons]
    exact ⟨(e 0).trans ih.1, (e 1).trans ih.2.1, (e 2).trans ih.2.2⟩

/-- A slice's tokens, in block g from its beginning on. -/
def ToksAt (w : World) (g : Nat) (ts : List Tok) : Prop :=
  ∀ i, i < ts.length → w.cell? ⟨g, i * 3, none⟩ = some (.int .u8 (tel ts i).k) ∧ w.cell? ⟨g, i * 3 + 1, none⟩ = some (.string (tel ts i).s) ∧ w.cell? ⟨g, i * 3 + 2, none⟩ = some (.int .i64 (tel ts i).a)
theorem ToksAt.below {w W : World} {g : Nat} {ts : List Tok} (h : ToksAt w g ts) (hb : Below w.heap.size w W) : ToksAt W g ts := by
  intro i hi
  obtain ⟨h0, h1, h2⟩ := h i hi
  have hl : g < w.heap.size := World.block_lt_of_cell? w _ h0
  exact ⟨(hb.cell (p := ⟨g, i * 3, none⟩) hl).trans h0, (hb.cell (p := ⟨g, i * 3 + 1, none⟩) hl).trans h1, (hb.cell (p := ⟨g, i * 3 + 2, none⟩) hl).trans h2⟩
theorem add_plain (g j : Nat) : (⟨g, 0, none⟩ : Addr).add j = ⟨g, j, none⟩ := by unfold Addr.add; split <;> simp_all
theorem toks_of_own {w : World} {B : Nat} {e : TypeId} {v : Value} {ts : List Tok} (h : w.ownsRow B e 3 v ts.length (tcells ts)) (h0 : 0 < ts.length) :
    ∃ g c, v = .slice (some ⟨g, 0, none⟩) ts.length c ∧ ToksAt w g ts ∧ ts.length ≤ c ∧ c ≤ maxLen := by
  rcases h.2 with ⟨_, hz⟩ | ⟨g, cap, cur, hv, _, _, hnc, hcm, _, _⟩
  · omega
  · refine ⟨g, cap, hv, fun i hi => ?_, hnc, hcm⟩
    have hc := h.cells (g := g) (by rw [hv]; rfl)
    obtain ⟨h0, h1, h2⟩ := tcells_get ts i hi
    have a0 := hc _ _ h0; have a1 := hc _ _ h1; have a2 := hc _ _ h2
    rw [add_plain] at a0 a1 a2
    exact ⟨a0, a1, a2⟩

/-- The end's token. -/
def endT (n : Nat) : Tok := ⟨6, ⟨#[]⟩, n⟩
/-- What Lex comes to, the program's and the document's. -/
def LexEnd (xs : List Int) (w : World) (e : Ending) (w' : World) : Prop :=
  Below w.heap.size w w' ∧
  ((65536 < xs.length ∧ ∃ p c, e = .returned (.tuple #[.slice p 0 c, .int .i64 0, .int .i64 3])) ∨
   (xs.length ≤ 65536 ∧ ∃ p c, ∃ k : Nat, lex xs 0 = .inl k ∧ e = .returned (.tuple #[.slice p 0 c, .int .i64 k, .int .i64 2])) ∨
   (xs.length ≤ 65536 ∧ ∃ ts g c, lex xs 0 = .inr ts ∧ e = .returned (.tuple #[.slice (some ⟨g, 0, none⟩) (ts.length + 1) c, .int .i64 0, .int .i64 0]) ∧ ToksAt w' g (ts ++ [endT xs.length]) ∧ ts.length + 1 ≤ c ∧ c ≤ maxLen))

theorem infoTok : (Tryz.prog.info? 48).map (fun i => (i.zero, i.size, i.bytes)) = some (some (.agg #[.int .u8 0, .string ⟨#[]⟩, .int .i64 0]), 3, 32) := by kernel_rfl

theorem three_new (w : World) (x y z : Value) (t : TypeId) : ∀ j u, [x, y, z][j]? = some u → (w.alloc (.cells #[x, y, z] t)).cell? ((⟨w.heap.size, 0, none⟩ : Addr).add j) = some u := by
  intro j u hj
  match j, hj with
  | 0, hj => simp at hj; subst hj; simp [Addr.add]
  | 1, hj => simp at hj; subst hj; simp [Addr.add]
  | 2, hj => simp at hj; subst hj; simp [Addr.add]
  | (j + 3), hj => simp at hj

theorem own_below {w W : World} {B e size n : Nat} {v : Value} {xs : List Value} (h : w.ownsRow B e size v n xs) (hb : Below w.heap.size w W) : W.ownsRow B e size v n xs :=
  h.kept (row := none) ⟨hb.os, hb.tape, hb.output, hb.size, fun q hq _ => hb.block q hq⟩ (by cases v.ownBlock <;> simp)
/-- Behind an append of a token that lies in a block of its own. -/
theorem after_append {w w2 w3 : World} {B e n : Nat} {t : TypeId} {v0 v1 v2 v : Value} {xs : List Value} {O : Obj} (hB : B ≤ w2.heap.size) (hbw : Below B w w2) (hown : w2.ownsRow B e 3 v n xs)
    (hg : ((w2.alloc (.cells #[v0, v1, v2] t)).alloc O).grownBy w3 v.ownBlock) : Below B w w3 ∧ w3.cell? ⟨w2.heap.size, 1, none⟩ = some v1 := by
  refine ⟨((hbw.alloc hB _).alloc (by simp; omega) _).grown hg (by simp; omega) (fun q hq => (hown.lt q hq).1), ?_⟩
  refine hg.cell (a := ⟨w2.heap.size, 1, none⟩) ?_ (fun e => by have := (hown.lt _ e.symm).2; simp at this)
  rw [World.cell?_alloc_lt _ _ _ (by simp)]
  simp [go_sem]
theorem drop_len (xs : List Int) (k n : Nat) (h : xs.length = n) : (xs.drop k).length = n - k := by rw [List.length_drop, h]

end Token
end Go.Proofs.YtlmaphaipcfppaaGreatDoor
