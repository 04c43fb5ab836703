/- A third box: the state that is made. -/
import Derived.Test.YtcffomhcmilcpaaGreatM8a
namespace Go.Proofs.YtcffomhcmilcpaaGreat
open Go.RowKit Go.Maps
set_option linter.unusedSimpArgs false
set_option linter.unusedVariables false
set_option maxRecDepth 100000

structure ThreeB (w W : World) (q : Nat) (cs zs ns : Array Value) : Prop where
  t : TwoB w W cs zs
  n : W.heap[q]? = some (.cells ns 54)
  lo : w.heap.size + 2 ≤ q
  hi : q < W.heap.size
theorem three_new {w W : World} {cs zs : Array Value} (h : TwoB w W cs zs) (ns : Array Value) : ThreeB w (W.alloc (.cells ns 54)) W.heap.size cs zs ns := ⟨h.alloc _, heap_alloc_new W _, h.s, by simp⟩
theorem ThreeB.next {w W W' : World} {q : Nat} {cs zs ns : Array Value} (h : ThreeB w W q cs zs ns) (hb : Below W.heap.size W W') : ThreeB w W' q cs zs ns := ⟨h.t.next hb, (hb.block q h.hi).trans h.n, h.lo, Nat.lt_of_lt_of_le h.hi hb.size⟩
theorem ThreeB.setn {w W : World} {q : Nat} {cs zs ns : Array Value} (h : ThreeB w W q cs zs ns) (j : Nat) (u : Value) : ThreeB w (W.setCell ⟨q, j, none⟩ u) q cs zs (ns.setIfInBounds j u) := by
  have hl := h.lo
  exact ⟨⟨(Below.heap_setCell _ _ _ _ (by simp; omega)).trans h.t.x, (Below.heap_setCell _ _ _ _ (by simp; omega)).trans h.t.z, h.t.b.setCell (by simp; omega) _, by have := h.t.s; simpa using this⟩, set_box h.n, h.lo, by have := h.hi; simpa using this⟩
/-- A new list, apart from the three boxes. -/
def LN (w W : World) (q : Nat) (v : Value) (l : List Int) : Prop := IL W v l ∧ In (fun b => w.heap.size + 2 ≤ b ∧ b ≠ q) v l
theorem LN.under {w W W' : World} {q : Nat} {v : Value} {l : List Int} (h : LN w W q v l) (hb : Below W.heap.size W W') : LN w W' q v l := ⟨h.1.under hb, h.2⟩
theorem LN.setn {w W : World} {q : Nat} {v : Value} {l : List Int} (h : LN w W q v l) (j : Nat) (u : Value) : LN w (W.setCell ⟨q, j, none⟩ u) q v l := ⟨h.1.off (q := q) (h.2.mono fun b hb => hb.2) (fun b hb => Below.heap_setCell _ _ _ _ hb) (by simp), h.2⟩
/-- It was there ahead of the third box. -/
theorem ln_old {w W : World} {v : Value} {l : List Int} (h : IL W v l) (hn : In (fun b => w.heap.size + 2 ≤ b) v l) (ns : Array Value) : LN w (W.alloc (.cells ns 54)) W.heap.size v l := by
  have ho := h.old
  exact ⟨h.under ((Below.refl _ _).alloc (Nat.le_refl _) _), fun hne b off n c e => ⟨hn hne b off n c e, by have := ho hne b off n c e; omega⟩⟩
/-- It was made behind it. -/
theorem ln_new {w W W' : World} {q : Nat} {v : Value} {l : List Int} (h : IL W' v l) (hn : In (fun b => W.heap.size ≤ b) v l) (hq : q < W.heap.size) (hl : w.heap.size + 2 ≤ q) : LN w W' q v l := ⟨h, hn.mono fun b hb => ⟨by omega, by omega⟩⟩
theorem LN.nil (w W : World) (q : Nat) : LN w W q (.slice none 0 0) [] := ⟨IL.nil _, In.nil _ _⟩
theorem LN.in {w W : World} {q : Nat} {v : Value} {l : List Int} (h : LN w W q v l) : In (fun b => w.heap.size + 2 ≤ b) v l := h.2.mono fun b hb => hb.1
theorem LN.ia {w W : World} {q : Nat} {v : Value} {l : List Int} (h : LN w W q v l) : IA w W v l := ⟨h.1, h.2.mono fun b hb => .inr hb.1⟩
end Go.Proofs.YtcffomhcmilcpaaGreat
