/- The document's Assign. -/
import Derived.Test.YtdnpbhijjmlecaaG28
namespace Go.Proofs.Ytdnpbhijjmlecaa
open Go.RowKit Go.Maps
set_option maxRecDepth 100000
set_option linter.unusedSimpArgs false
set_option linter.unusedVariables false

/-- The row so far: lists, apart from the row's own block. -/
def RInv (w wr : World) (v : Value) (l : List Int) (k i : Nat) : Prop := ∃ ds : List Value, ds.length = i ∧ wr.ownsRow w.heap.size 30 1 v i ds ∧ (∀ j (h : j < ds.length), IL wr ds[j] (shareL l k j) ∧ In (fun b => w.heap.size ≤ b ∧ v.ownBlock ≠ some b) ds[j] (shareL l k j)) ∧ Below w.heap.size w wr
theorem RInv.below {w wr : World} {v : Value} {l : List Int} {k i : Nat} (h : RInv w wr v l k i) : Below w.heap.size w wr := by obtain ⟨ds, _, _, _, h⟩ := h; exact h
theorem RInv.start (w : World) (l : List Int) (k : Nat) : RInv w w (.slice none 0 0) l k 0 := ⟨[], rfl, World.ownsRow_nil _ _ _ _, fun j h => by simp at h, Below.refl _ _⟩
theorem RInv.next {w wr W : World} {v : Value} {l : List Int} {k i : Nat} (h : RInv w wr v l k i) {x : Value} (hb : Below wr.heap.size wr W) (hx : IL W x (shareL l k i)) (hn : In (fun b => wr.heap.size ≤ b) x (shareL l k i)) {v' : Value} {w' : World}
    (hr : w'.ownsRow w.heap.size 30 1 v' (i + 1) ((Classical.choose h) ++ [x])) (hg : W.grownBy w' v.ownBlock) (hat : v'.ownBlock = v.ownBlock ∨ v'.ownBlock = some W.heap.size) : RInv w w' v' l k (i + 1) := by
  obtain ⟨d1, d2, d3, d4⟩ := Classical.choose_spec h
  generalize Classical.choose h = ds at *
  have hvl : ∀ b, v.ownBlock = some b → b < wr.heap.size := fun b hb => (World.ownsRow.lt d2 b hb).2
  have hne : ∀ b, b < W.heap.size → v.ownBlock ≠ some b → v'.ownBlock ≠ some b := fun b h1 h2 e => by
    rcases hat with h | h
    · exact h2 (by rw [← h]; exact e)
    · rw [h] at e; cases e; omega
  have hkeep : ∀ {z : Value} {m : List Int}, IL W z m → In (fun b => v.ownBlock ≠ some b) z m → IL w' z m := fun {z m} hz hin => by
    refine hz.keeps (S := fun b => v.ownBlock = some b) ⟨hg.os, hg.tape, hg.output, hg.size, fun b h1 h2 => hg.block b h1 (fun e => h2 e.symm)⟩ (hin.mono fun b hb => hb)
  have hxo : In (fun b => v.ownBlock ≠ some b) x (shareL l k i) := hn.mono fun b hb e => by have := hvl b e; omega
  refine ⟨ds ++ [x], by simp [d1], hr, fun j hj => ?_, (d4.trans (hb.mono d4.size)).grown hg (by have := hb.size; have := d4.size; omega) (fun b hb => (World.ownsRow.lt d2 b hb).1)⟩
  by_cases hj2 : j < ds.length
  · obtain ⟨g1, g2⟩ := d3 j hj2
    have e : (ds ++ [x])[j] = ds[j] := List.getElem_append_left hj2
    rw [e]
    have hold : In (fun b => b < W.heap.size) ds[j] (shareL l k j) := (g1.under hb).old
    exact ⟨hkeep (g1.under hb) (g2.mono fun b hb => hb.2), fun hn b off n c e2 => ⟨(g2 hn b off n c e2).1, hne b (hold hn b off n c e2) (g2 hn b off n c e2).2⟩⟩
  · have hjl : j = ds.length := by simp at hj; omega
    subst hjl
    have e : (ds ++ [x])[ds.length] = x := by simp
    rw [e, d1]
    have hold : In (fun b => b < W.heap.size) x (shareL l k i) := hx.old
    exact ⟨hkeep hx hxo, fun hne2 b off n c e2 => ⟨by have := hn hne2 b off n c e2; have := d4.size; omega, hne b (hold hne2 b off n c e2) (hxo hne2 b off n c e2)⟩⟩
theorem RInv.row {w wr : World} {v : Value} {l : List Int} {k i : Nat} (h : RInv w wr v l k i) : wr.ownsRow w.heap.size 30 1 v i (Classical.choose h) := (Classical.choose_spec h).2.1
theorem RInv.shape {w wr : World} {v : Value} {l : List Int} {k i : Nat} (h : RInv w wr v l k i) : ∃ a c, v = .slice a i c := by
  obtain ⟨oa, cap, e, _⟩ := row_shape (row_base h.row)
  exact ⟨oa, cap, e⟩
/-- What append([]int{}, x...) leaves. -/
theorem fresh_list {w : World} {v2 : Value} {w2 : World} {l : List Int} (hok : ∀ x ∈ l, I64 x) (hf : l.length ≤ 17592186044415) (hown : w2.ownsRow w.heap.size 3 1 v2 (0 + l.length) ([] ++ vals l)) : IL w2 v2 l ∧ In (fun b => w.heap.size ≤ b) v2 l := by
  rw [Nat.zero_add, List.nil_append] at hown
  exact ⟨IL.of hown hok hf, in_own hown⟩
end Go.Proofs.Ytdnpbhijjmlecaa
