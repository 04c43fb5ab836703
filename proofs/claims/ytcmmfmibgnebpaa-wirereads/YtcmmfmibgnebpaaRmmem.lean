/- Where the document's ReadMeta stands, in memory. -/
import Derived.Test.YtcmmfmibgnebpaaRfmem
import Derived.Test.YtcmmfmibgnebpaaMread
namespace Go.Proofs.Ytcmmfmibgnebpaa
open Go.RowKit Go.Maps
set_option linter.unusedSimpArgs false
set_option linter.unusedVariables false
set_option maxRecDepth 100000

/-- The out box, the record's box, and the row of numbers: at the heap's end, two behind it, and beyond. -/
structure Rm (w : World) (p : Nat) (n0 n1 n2 n3 n4 : Int) (nm tx : ByteArray) (F : List Value) (k : Nat) (rv : Value) (W : World) : Prop where
  out : W.heap[w.heap.size]? = some (.cells #[.int .i64 0, .int .i64 0, .int .i64 0, .int .i64 0, .int .i64 0, .string ⟨#[]⟩, .string ⟨#[]⟩, .slice none 0 0] 43)
  box : W.heap[p + 1]? = some (.cells #[.int .i64 n0, .int .i64 n1, .int .i64 n2, .int .i64 n3, .int .i64 n4, .string nm, .string tx, rv] 43)
  row : W.ownsRow (p + 2) 3 1 rv k F
  below : Below w.heap.size w W
  hi : p + 1 < W.heap.size
  lo : w.heap.size < p
theorem Rm.grown {w : World} {p : Nat} {n0 n1 n2 n3 n4 : Int} {nm tx : ByteArray} {F : List Value} {k : Nat} {rv : Value} {W W1 : World} (h : Rm w p n0 n1 n2 n3 n4 nm tx F k rv W) (hg : W.grownBy W1 (some (p))) : Rm w p n0 n1 n2 n3 n4 nm tx F k rv W1 := by
  have hs := hg.size
  have hi := h.hi
  have hlo := h.lo
  refine ⟨?_, ?_, ownsRow_kept h.row (fun q hq => ?_), h.below.trans ⟨hg.os, hg.tape, hg.output, hs, fun q hq => hg.block q (by omega) (by simp <;> omega)⟩, by omega, h.lo⟩
  · rw [hg.block w.heap.size (by omega) (by simp <;> omega)]; exact h.out
  · rw [hg.block (p + 1) hi (by simp)]; exact h.box
  · have := World.ownsRow.lt h.row q hq
    exact hg.block q this.2 (by simp <;> omega)
theorem Rm.alloc {w : World} {p : Nat} {n0 n1 n2 n3 n4 : Int} {nm tx : ByteArray} {F : List Value} {k : Nat} {rv : Value} {W : World} (h : Rm w p n0 n1 n2 n3 n4 nm tx F k rv W) (O : Obj) : Rm w p n0 n1 n2 n3 n4 nm tx F k rv (W.alloc O) := by
  have hi := h.hi
  have hlo := h.lo
  refine ⟨?_, ?_, ownsRow_kept h.row (fun q hq => ?_), h.below.alloc (by omega) O, by simp <;> omega, h.lo⟩
  · rw [Below.heap_alloc _ _ _ (by omega)]; exact h.out
  · rw [Below.heap_alloc _ _ _ hi]; exact h.box
  · have := World.ownsRow.lt h.row q hq
    exact Below.heap_alloc _ _ _ this.2
theorem Rm.set {w : World} {p : Nat} {n0 n1 n2 n3 n4 : Int} {nm tx : ByteArray} {F : List Value} {k : Nat} {rv : Value} {W : World} (h : Rm w p n0 n1 n2 n3 n4 nm tx F k rv W) (g j : Nat) (u : Value) (hg : p + 1 < g) (hr : ∀ q, rv.ownBlock = some q → q < g) : Rm w p n0 n1 n2 n3 n4 nm tx F k rv (W.setCell ⟨g, j, none⟩ u) := by
  have hlo := h.lo
  refine ⟨?_, ?_, ownsRow_kept h.row (fun q hq => ?_), h.below.setCell (by simp <;> omega) _, by have := h.hi; simpa [World.setCell] using this, h.lo⟩
  · rw [Below.heap_setCell W ⟨g, j, none⟩ _ w.heap.size (by simp <;> omega)]; exact h.out
  · rw [Below.heap_setCell W ⟨g, j, none⟩ _ (p + 1) (by simp <;> omega)]; exact h.box
  · have := hr q hq
    exact Below.heap_setCell W ⟨g, j, none⟩ _ q (by simp <;> omega)
theorem Rm.num0 {w : World} {p : Nat} {n0 n1 n2 n3 n4 : Int} {nm tx : ByteArray} {F : List Value} {k : Nat} {rv : Value} {W : World} (h : Rm w p n0 n1 n2 n3 n4 nm tx F k rv W) (x : Int) : Rm w p x n1 n2 n3 n4 nm tx F k rv (W.setCell ⟨p + 1, 0, none⟩ (.int .i64 x)) := by
  have hlo := h.lo
  refine ⟨?_, set_box (j := 0) (u := .int .i64 x) h.box, ownsRow_kept h.row (fun q hq => ?_), h.below.setCell (by simp <;> omega) _, by have := h.hi; simpa [World.setCell] using this, h.lo⟩
  · rw [Below.heap_setCell W ⟨p + 1, 0, none⟩ _ w.heap.size (by simp <;> omega)]; exact h.out
  · have := World.ownsRow.lt h.row q hq
    exact Below.heap_setCell W ⟨p + 1, 0, none⟩ _ q (by simp <;> omega)
theorem Rm.num1 {w : World} {p : Nat} {n0 n1 n2 n3 n4 : Int} {nm tx : ByteArray} {F : List Value} {k : Nat} {rv : Value} {W : World} (h : Rm w p n0 n1 n2 n3 n4 nm tx F k rv W) (x : Int) : Rm w p n0 x n2 n3 n4 nm tx F k rv (W.setCell ⟨p + 1, 1, none⟩ (.int .i64 x)) := by
  have hlo := h.lo
  refine ⟨?_, set_box (j := 1) (u := .int .i64 x) h.box, ownsRow_kept h.row (fun q hq => ?_), h.below.setCell (by simp <;> omega) _, by have := h.hi; simpa [World.setCell] using this, h.lo⟩
  · rw [Below.heap_setCell W ⟨p + 1, 1, none⟩ _ w.heap.size (by simp <;> omega)]; exact h.out
  · have := World.ownsRow.lt h.row q hq
    exact Below.heap_setCell W ⟨p + 1, 1, none⟩ _ q (by simp <;> omega)
theorem Rm.num2 {w : World} {p : Nat} {n0 n1 n2 n3 n4 : Int} {nm tx : ByteArray} {F : List Value} {k : Nat} {rv : Value} {W : World} (h : Rm w p n0 n1 n2 n3 n4 nm tx F k rv W) (x : Int) : Rm w p n0 n1 x n3 n4 nm tx F k rv (W.setCell ⟨p + 1, 2, none⟩ (.int .i64 x)) := by
  have hlo := h.lo
  refine ⟨?_, set_box (j := 2) (u := .int .i64 x) h.box, ownsRow_kept h.row (fun q hq => ?_), h.below.setCell (by simp <;> omega) _, by have := h.hi; simpa [World.setCell] using this, h.lo⟩
  · rw [Below.heap_setCell W ⟨p + 1, 2, none⟩ _ w.heap.size (by simp <;> omega)]; exact h.out
  · have := World.ownsRow.lt h.row q hq
    exact Below.heap_setCell W ⟨p + 1, 2, none⟩ _ q (by simp <;> omega)
theorem Rm.num3 {w : World} {p : Nat} {n0 n1 n2 n3 n4 : Int} {nm tx : ByteArray} {F : List Value} {k : Nat} {rv : Value} {W : World} (h : Rm w p n0 n1 n2 n3 n4 nm tx F k rv W) (x : Int) : Rm w p n0 n1 n2 x n4 nm tx F k rv (W.setCell ⟨p + 1, 3, none⟩ (.int .i64 x)) := by
  have hlo := h.lo
  refine ⟨?_, set_box (j := 3) (u := .int .i64 x) h.box, ownsRow_kept h.row (fun q hq => ?_), h.below.setCell (by simp <;> omega) _, by have := h.hi; simpa [World.setCell] using this, h.lo⟩
  · rw [Below.heap_setCell W ⟨p + 1, 3, none⟩ _ w.heap.size (by simp <;> omega)]; exact h.out
  · have := World.ownsRow.lt h.row q hq
    exact Below.heap_setCell W ⟨p + 1, 3, none⟩ _ q (by simp <;> omega)
theorem Rm.num4 {w : World} {p : Nat} {n0 n1 n2 n3 n4 : Int} {nm tx : ByteArray} {F : List Value} {k : Nat} {rv : Value} {W : World} (h : Rm w p n0 n1 n2 n3 n4 nm tx F k rv W) (x : Int) : Rm w p n0 n1 n2 n3 x nm tx F k rv (W.setCell ⟨p + 1, 4, none⟩ (.int .i64 x)) := by
  have hlo := h.lo
  refine ⟨?_, set_box (j := 4) (u := .int .i64 x) h.box, ownsRow_kept h.row (fun q hq => ?_), h.below.setCell (by simp <;> omega) _, by have := h.hi; simpa [World.setCell] using this, h.lo⟩
  · rw [Below.heap_setCell W ⟨p + 1, 4, none⟩ _ w.heap.size (by simp <;> omega)]; exact h.out
  · have := World.ownsRow.lt h.row q hq
    exact Below.heap_setCell W ⟨p + 1, 4, none⟩ _ q (by simp <;> omega)
theorem Rm.txt5 {w : World} {p : Nat} {n0 n1 n2 n3 n4 : Int} {nm tx : ByteArray} {F : List Value} {k : Nat} {rv : Value} {W : World} (h : Rm w p n0 n1 n2 n3 n4 nm tx F k rv W) (x : ByteArray) : Rm w p n0 n1 n2 n3 n4 x tx F k rv (W.setCell ⟨p + 1, 5, none⟩ (.string x)) := by
  have hlo := h.lo
  refine ⟨?_, set_box (j := 5) (u := .string x) h.box, ownsRow_kept h.row (fun q hq => ?_), h.below.setCell (by simp <;> omega) _, by have := h.hi; simpa [World.setCell] using this, h.lo⟩
  · rw [Below.heap_setCell W ⟨p + 1, 5, none⟩ _ w.heap.size (by simp <;> omega)]; exact h.out
  · have := World.ownsRow.lt h.row q hq
    exact Below.heap_setCell W ⟨p + 1, 5, none⟩ _ q (by simp <;> omega)
theorem Rm.txt6 {w : World} {p : Nat} {n0 n1 n2 n3 n4 : Int} {nm tx : ByteArray} {F : List Value} {k : Nat} {rv : Value} {W : World} (h : Rm w p n0 n1 n2 n3 n4 nm tx F k rv W) (x : ByteArray) : Rm w p n0 n1 n2 n3 n4 nm x F k rv (W.setCell ⟨p + 1, 6, none⟩ (.string x)) := by
  have hlo := h.lo
  refine ⟨?_, set_box (j := 6) (u := .string x) h.box, ownsRow_kept h.row (fun q hq => ?_), h.below.setCell (by simp <;> omega) _, by have := h.hi; simpa [World.setCell] using this, h.lo⟩
  · rw [Below.heap_setCell W ⟨p + 1, 6, none⟩ _ w.heap.size (by simp <;> omega)]; exact h.out
  · have := World.ownsRow.lt h.row q hq
    exact Below.heap_setCell W ⟨p + 1, 6, none⟩ _ q (by simp <;> omega)

theorem Rm.cells {w : World} {p : Nat} {n0 n1 n2 n3 n4 : Int} {nm tx : ByteArray} {F : List Value} {k : Nat} {rv : Value} {W : World} (h : Rm w p n0 n1 n2 n3 n4 nm tx F k rv W) : W.cell? ⟨p + 1, 0, none⟩ = some (.int .i64 n0) ∧ W.cell? ⟨p + 1, 1, none⟩ = some (.int .i64 n1) ∧ W.cell? ⟨p + 1, 2, none⟩ = some (.int .i64 n2) ∧ W.cell? ⟨p + 1, 3, none⟩ = some (.int .i64 n3) ∧ W.cell? ⟨p + 1, 4, none⟩ = some (.int .i64 n4) ∧ W.cell? ⟨p + 1, 5, none⟩ = some (.string nm) ∧ W.cell? ⟨p + 1, 6, none⟩ = some (.string tx) ∧ W.cell? ⟨p + 1, 7, none⟩ = some rv :=
  ⟨cell_blk h.box 0 _ rfl, cell_blk h.box 1 _ rfl, cell_blk h.box 2 _ rfl, cell_blk h.box 3 _ rfl, cell_blk h.box 4 _ rfl, cell_blk h.box 5 _ rfl, cell_blk h.box 6 _ rfl, cell_blk h.box 7 _ rfl⟩
theorem Rm.free {w : World} {p : Nat} {n0 n1 n2 n3 n4 : Int} {nm tx : ByteArray} {F : List Value} {k : Nat} {rv : Value} {W : World} (h : Rm w p n0 n1 n2 n3 n4 nm tx F k rv W) (j : Nat) : W.frozen? ⟨p + 1, j, none⟩ = false := frozen_blk h.box j
theorem Rm.outs {w : World} {p : Nat} {n0 n1 n2 n3 n4 : Int} {nm tx : ByteArray} {F : List Value} {k : Nat} {rv : Value} {W : World} (h : Rm w p n0 n1 n2 n3 n4 nm tx F k rv W) : Boxed w W (.cells #[.int .i64 0, .int .i64 0, .int .i64 0, .int .i64 0, .int .i64 0, .string ⟨#[]⟩, .string ⟨#[]⟩, .slice none 0 0] 43) := ⟨h.below, h.out⟩

/-- A record more, behind the append. -/
theorem Rm.more {w : World} {p : Nat} {n0 n1 n2 n3 n4 : Int} {nm tx : ByteArray} {F F' : List Value} {k : Nat} {rv : Value} {W W5 : World} (h : Rm w p n0 n1 n2 n3 n4 nm tx F k rv W) {O : Obj} {g cap : Nat}
    (hown : W5.ownsRow (p + 2) 3 1 (.slice (some ⟨g, 0, none⟩) (k + 1) cap) (k + 1) F') (hg : (W.alloc O).grownBy W5 rv.ownBlock) :
    W5.cell? ⟨p + 1, 7, none⟩ = some rv ∧ W5.frozen? ⟨p + 1, 7, none⟩ = false ∧ Rm w p n0 n1 n2 n3 n4 nm tx F' (k + 1) (.slice (some ⟨g, 0, none⟩) (k + 1) cap) (W5.setCell ⟨p + 1, 7, none⟩ (.slice (some ⟨g, 0, none⟩) (k + 1) cap)) := by
  have ha := h.alloc O
  have hi := h.hi
  have hlo := h.lo
  have hs := hg.size
  simp at hs
  have hown0 : ∀ q, rv.ownBlock = some q → p + 2 ≤ q := fun q hq => (World.ownsRow.lt h.row q hq).1
  have hb : ∀ q, q < p + 2 → W5.heap[q]? = (W.alloc O).heap[q]? := fun q hq => hg.block q (by simp <;> omega) (fun e => by have := hown0 q e.symm; omega)
  have hbox := (hb (p + 1) (by omega)).trans ha.box
  refine ⟨cell_blk hbox 7 rv rfl, frozen_blk hbox 7, ?_, set_box (j := 7) (u := .slice (some ⟨g, 0, none⟩) (k + 1) cap) hbox, ownsRow_kept hown (fun q hq => ?_), ?_, ?_, h.lo⟩
  · rw [Below.heap_setCell W5 ⟨p + 1, 7, none⟩ _ w.heap.size (by simp <;> omega)]
    exact (hb w.heap.size (by omega)).trans ha.out
  · have := (World.ownsRow.lt hown q hq).1
    exact Below.heap_setCell W5 ⟨p + 1, 7, none⟩ _ q (by simp <;> omega)
  · exact (ha.below.trans ⟨hg.os, hg.tape, hg.output, by simp <;> omega, fun q hq => hb q (by omega)⟩).setCell (by simp <;> omega) _
  · have : (W5.setCell ⟨p + 1, 7, none⟩ (.slice (some ⟨g, 0, none⟩) (k + 1) cap)).heap.size = W5.heap.size := by simp [World.setCell]
    omega
theorem Rm.start {w W : World} (h : Boxed w W (.cells #[.int .i64 0, .int .i64 0, .int .i64 0, .int .i64 0, .int .i64 0, .string ⟨#[]⟩, .string ⟨#[]⟩, .slice none 0 0] 43)) (O : Obj) : Rm w W.heap.size 0 0 0 0 0 ⟨#[]⟩ ⟨#[]⟩ [] 0 (.slice none 0 0) ((W.alloc O).alloc (.cells #[.int .i64 0, .int .i64 0, .int .i64 0, .int .i64 0, .int .i64 0, .string ⟨#[]⟩, .string ⟨#[]⟩, .slice none 0 0] 43)) := by
  have hl := h.lt
  refine ⟨?_, ?_, World.ownsRow_nil _ _ _ _, (h.below.alloc (by omega) O).alloc (by simp <;> omega) _, by simp, hl⟩
  · rw [Below.heap_alloc _ _ _ (by simp <;> omega), Below.heap_alloc _ _ _ hl]; exact h.box
  · have e : (W.alloc O).heap.size = W.heap.size + 1 := by simp
    rw [← e]
    exact heap_alloc_new _ _
theorem Rm.next {w : World} {p : Nat} {n0 n1 n2 n3 n4 : Int} {nm tx : ByteArray} {F : List Value} {k : Nat} {rv : Value} {W W1 : World} (h : Rm w p n0 n1 n2 n3 n4 nm tx F k rv W) (hb : Below W.heap.size W W1) : Rm w p n0 n1 n2 n3 n4 nm tx F k rv W1 := by
  have hi := h.hi
  have hlo := h.lo
  have hs := hb.size
  refine ⟨(hb.block _ (by omega)).trans h.out, (hb.block _ hi).trans h.box, ownsRow_kept h.row (fun q hq => hb.block q (World.ownsRow.lt h.row q hq).2), h.below.trans (hb.mono (by omega)), by omega, hlo⟩
end Go.Proofs.Ytcmmfmibgnebpaa
