/- Where the document's ReadBatch stands, in memory. -/
import Derived.Test.YtocdlaoklagdoaaDoorG5
import Derived.Test.YtocdlaoklagdoaaDoorRbatch
namespace Go.Proofs.YtocdlaoklagdoaaDoor
open Go.RowKit Go.Maps
set_option linter.unusedSimpArgs false
set_option linter.unusedVariables false
set_option maxRecDepth 100000

/-- The out box, the batch's box, and the row of records: at the heap's end, two behind it, and beyond. -/
structure Rb (w : World) (p : Nat) (n0 n1 n2 n3 n4 : Int) (F : List Value) (k : Nat) (rv : Value) (W : World) : Prop where
  out : W.heap[w.heap.size]? = some (.cells #[.int .i64 0, .int .i64 0, .int .i64 0, .int .i64 0, .int .i64 0, .slice none 0 0] 50)
  box : W.heap[p + 1]? = some (.cells #[.int .i64 n0, .int .i64 n1, .int .i64 n2, .int .i64 n3, .int .i64 n4, rv] 50)
  row : W.ownsRow (p + 2) 65 3 rv k F
  below : Below w.heap.size w W
  hi : p + 1 < W.heap.size
  lo : w.heap.size < p
theorem Rb.grown {w : World} {p : Nat} {n0 n1 n2 n3 n4 : Int} {F : List Value} {k : Nat} {rv : Value} {W W1 : World} (h : Rb w p n0 n1 n2 n3 n4 F k rv W) (hg : W.grownBy W1 (some (p))) : Rb w p n0 n1 n2 n3 n4 F k rv W1 := by
  have hs := hg.size
  have hi := h.hi
  have hlo := h.lo
  refine ⟨?_, ?_, ownsRow_kept h.row (fun q hq => ?_), h.below.trans ⟨hg.os, hg.tape, hg.output, hs, fun q hq => hg.block q (by omega) (by simp <;> omega)⟩, by omega, h.lo⟩
  · rw [hg.block w.heap.size (by omega) (by simp <;> omega)]; exact h.out
  · rw [hg.block (p + 1) hi (by simp)]; exact h.box
  · have := World.ownsRow.lt h.row q hq
    exact hg.block q this.2 (by simp <;> omega)
theorem Rb.alloc {w : World} {p : Nat} {n0 n1 n2 n3 n4 : Int} {F : List Value} {k : Nat} {rv : Value} {W : World} (h : Rb w p n0 n1 n2 n3 n4 F k rv W) (O : Obj) : Rb w p n0 n1 n2 n3 n4 F k rv (W.alloc O) := by
  have hi := h.hi
  have hlo := h.lo
  refine ⟨?_, ?_, ownsRow_kept h.row (fun q hq => ?_), h.below.alloc (by omega) O, by simp <;> omega, h.lo⟩
  · rw [Below.heap_alloc _ _ _ (by omega)]; exact h.out
  · rw [Below.heap_alloc _ _ _ hi]; exact h.box
  · have := World.ownsRow.lt h.row q hq
    exact Below.heap_alloc _ _ _ this.2
theorem Rb.set {w : World} {p : Nat} {n0 n1 n2 n3 n4 : Int} {F : List Value} {k : Nat} {rv : Value} {W : World} (h : Rb w p n0 n1 n2 n3 n4 F k rv W) (g j : Nat) (u : Value) (hg : p + 1 < g) (hr : ∀ q, rv.ownBlock = some q → q < g) : Rb w p n0 n1 n2 n3 n4 F k rv (W.setCell ⟨g, j, none⟩ u) := by
  have hlo := h.lo
  refine ⟨?_, ?_, ownsRow_kept h.row (fun q hq => ?_), h.below.setCell (by simp <;> omega) _, by have := h.hi; simpa [World.setCell] using this, h.lo⟩
  · rw [Below.heap_setCell W ⟨g, j, none⟩ _ w.heap.size (by simp <;> omega)]; exact h.out
  · rw [Below.heap_setCell W ⟨g, j, none⟩ _ (p + 1) (by simp <;> omega)]; exact h.box
  · have := hr q hq
    exact Below.heap_setCell W ⟨g, j, none⟩ _ q (by simp <;> omega)
theorem Rb.num0 {w : World} {p : Nat} {n0 n1 n2 n3 n4 : Int} {F : List Value} {k : Nat} {rv : Value} {W : World} (h : Rb w p n0 n1 n2 n3 n4 F k rv W) (x : Int) : Rb w p x n1 n2 n3 n4 F k rv (W.setCell ⟨p + 1, 0, none⟩ (.int .i64 x)) := by
  have hlo := h.lo
  refine ⟨?_, set_box (j := 0) (u := .int .i64 x) h.box, ownsRow_kept h.row (fun q hq => ?_), h.below.setCell (by simp <;> omega) _, by have := h.hi; simpa [World.setCell] using this, h.lo⟩
  · rw [Below.heap_setCell W ⟨p + 1, 0, none⟩ _ w.heap.size (by simp <;> omega)]; exact h.out
  · have := World.ownsRow.lt h.row q hq
    exact Below.heap_setCell W ⟨p + 1, 0, none⟩ _ q (by simp <;> omega)
theorem Rb.num1 {w : World} {p : Nat} {n0 n1 n2 n3 n4 : Int} {F : List Value} {k : Nat} {rv : Value} {W : World} (h : Rb w p n0 n1 n2 n3 n4 F k rv W) (x : Int) : Rb w p n0 x n2 n3 n4 F k rv (W.setCell ⟨p + 1, 1, none⟩ (.int .i64 x)) := by
  have hlo := h.lo
  refine ⟨?_, set_box (j := 1) (u := .int .i64 x) h.box, ownsRow_kept h.row (fun q hq => ?_), h.below.setCell (by simp <;> omega) _, by have := h.hi; simpa [World.setCell] using this, h.lo⟩
  · rw [Below.heap_setCell W ⟨p + 1, 1, none⟩ _ w.heap.size (by simp <;> omega)]; exact h.out
  · have := World.ownsRow.lt h.row q hq
    exact Below.heap_setCell W ⟨p + 1, 1, none⟩ _ q (by simp <;> omega)
theorem Rb.num2 {w : World} {p : Nat} {n0 n1 n2 n3 n4 : Int} {F : List Value} {k : Nat} {rv : Value} {W : World} (h : Rb w p n0 n1 n2 n3 n4 F k rv W) (x : Int) : Rb w p n0 n1 x n3 n4 F k rv (W.setCell ⟨p + 1, 2, none⟩ (.int .i64 x)) := by
  have hlo := h.lo
  refine ⟨?_, set_box (j := 2) (u := .int .i64 x) h.box, ownsRow_kept h.row (fun q hq => ?_), h.below.setCell (by simp <;> omega) _, by have := h.hi; simpa [World.setCell] using this, h.lo⟩
  · rw [Below.heap_setCell W ⟨p + 1, 2, none⟩ _ w.heap.size (by simp <;> omega)]; exact h.out
  · have := World.ownsRow.lt h.row q hq
    exact Below.heap_setCell W ⟨p + 1, 2, none⟩ _ q (by simp <;> omega)
theorem Rb.num3 {w : World} {p : Nat} {n0 n1 n2 n3 n4 : Int} {F : List Value} {k : Nat} {rv : Value} {W : World} (h : Rb w p n0 n1 n2 n3 n4 F k rv W) (x : Int) : Rb w p n0 n1 n2 x n4 F k rv (W.setCell ⟨p + 1, 3, none⟩ (.int .i64 x)) := by
  have hlo := h.lo
  refine ⟨?_, set_box (j := 3) (u := .int .i64 x) h.box, ownsRow_kept h.row (fun q hq => ?_), h.below.setCell (by simp <;> omega) _, by have := h.hi; simpa [World.setCell] using this, h.lo⟩
  · rw [Below.heap_setCell W ⟨p + 1, 3, none⟩ _ w.heap.size (by simp <;> omega)]; exact h.out
  · have := World.ownsRow.lt h.row q hq
    exact Below.heap_setCell W ⟨p + 1, 3, none⟩ _ q (by simp <;> omega)
theorem Rb.num4 {w : World} {p : Nat} {n0 n1 n2 n3 n4 : Int} {F : List Value} {k : Nat} {rv : Value} {W : World} (h : Rb w p n0 n1 n2 n3 n4 F k rv W) (x : Int) : Rb w p n0 n1 n2 n3 x F k rv (W.setCell ⟨p + 1, 4, none⟩ (.int .i64 x)) := by
  have hlo := h.lo
  refine ⟨?_, set_box (j := 4) (u := .int .i64 x) h.box, ownsRow_kept h.row (fun q hq => ?_), h.below.setCell (by simp <;> omega) _, by have := h.hi; simpa [World.setCell] using this, h.lo⟩
  · rw [Below.heap_setCell W ⟨p + 1, 4, none⟩ _ w.heap.size (by simp <;> omega)]; exact h.out
  · have := World.ownsRow.lt h.row q hq
    exact Below.heap_setCell W ⟨p + 1, 4, none⟩ _ q (by simp <;> omega)

theorem Rb.cells {w : World} {p : Nat} {n0 n1 n2 n3 n4 : Int} {F : List Value} {k : Nat} {rv : Value} {W : World} (h : Rb w p n0 n1 n2 n3 n4 F k rv W) : W.cell? ⟨p + 1, 0, none⟩ = some (.int .i64 n0) ∧ W.cell? ⟨p + 1, 1, none⟩ = some (.int .i64 n1) ∧ W.cell? ⟨p + 1, 2, none⟩ = some (.int .i64 n2) ∧ W.cell? ⟨p + 1, 3, none⟩ = some (.int .i64 n3) ∧ W.cell? ⟨p + 1, 4, none⟩ = some (.int .i64 n4) ∧ W.cell? ⟨p + 1, 5, none⟩ = some rv :=
  ⟨cell_blk h.box 0 _ rfl, cell_blk h.box 1 _ rfl, cell_blk h.box 2 _ rfl, cell_blk h.box 3 _ rfl, cell_blk h.box 4 _ rfl, cell_blk h.box 5 _ rfl⟩
theorem Rb.free {w : World} {p : Nat} {n0 n1 n2 n3 n4 : Int} {F : List Value} {k : Nat} {rv : Value} {W : World} (h : Rb w p n0 n1 n2 n3 n4 F k rv W) (j : Nat) : W.frozen? ⟨p + 1, j, none⟩ = false := frozen_blk h.box j
theorem Rb.outs {w : World} {p : Nat} {n0 n1 n2 n3 n4 : Int} {F : List Value} {k : Nat} {rv : Value} {W : World} (h : Rb w p n0 n1 n2 n3 n4 F k rv W) : Boxed w W (.cells #[.int .i64 0, .int .i64 0, .int .i64 0, .int .i64 0, .int .i64 0, .slice none 0 0] 50) := ⟨h.below, h.out⟩

/-- A record more, behind the append. -/
theorem Rb.more {w : World} {p : Nat} {n0 n1 n2 n3 n4 : Int} {F F' : List Value} {k : Nat} {rv : Value} {W W5 : World} (h : Rb w p n0 n1 n2 n3 n4 F k rv W) {O : Obj} {g cap : Nat}
    (hown : W5.ownsRow (p + 2) 65 3 (.slice (some ⟨g, 0, none⟩) (k + 1) cap) (k + 1) F') (hg : (W.alloc O).grownBy W5 rv.ownBlock) :
    W5.cell? ⟨p + 1, 5, none⟩ = some rv ∧ W5.frozen? ⟨p + 1, 5, none⟩ = false ∧ Rb w p n0 n1 n2 n3 n4 F' (k + 1) (.slice (some ⟨g, 0, none⟩) (k + 1) cap) (W5.setCell ⟨p + 1, 5, none⟩ (.slice (some ⟨g, 0, none⟩) (k + 1) cap)) := by
  have ha := h.alloc O
  have hi := h.hi
  have hlo := h.lo
  have hs := hg.size
  simp at hs
  have hown0 : ∀ q, rv.ownBlock = some q → p + 2 ≤ q := fun q hq => (World.ownsRow.lt h.row q hq).1
  have hb : ∀ q, q < p + 2 → W5.heap[q]? = (W.alloc O).heap[q]? := fun q hq => hg.block q (by simp <;> omega) (fun e => by have := hown0 q e.symm; omega)
  have hbox := (hb (p + 1) (by omega)).trans ha.box
  refine ⟨cell_blk hbox 5 rv rfl, frozen_blk hbox 5, ?_, set_box (j := 5) (u := .slice (some ⟨g, 0, none⟩) (k + 1) cap) hbox, ownsRow_kept hown (fun q hq => ?_), ?_, ?_, h.lo⟩
  · rw [Below.heap_setCell W5 ⟨p + 1, 5, none⟩ _ w.heap.size (by simp <;> omega)]
    exact (hb w.heap.size (by omega)).trans ha.out
  · have := (World.ownsRow.lt hown q hq).1
    exact Below.heap_setCell W5 ⟨p + 1, 5, none⟩ _ q (by simp <;> omega)
  · exact (ha.below.trans ⟨hg.os, hg.tape, hg.output, by simp <;> omega, fun q hq => hb q (by omega)⟩).setCell (by simp <;> omega) _
  · have : (W5.setCell ⟨p + 1, 5, none⟩ (.slice (some ⟨g, 0, none⟩) (k + 1) cap)).heap.size = W5.heap.size := by simp [World.setCell]
    omega
theorem Rb.start {w W : World} (h : Boxed w W (.cells #[.int .i64 0, .int .i64 0, .int .i64 0, .int .i64 0, .int .i64 0, .slice none 0 0] 50)) (O : Obj) : Rb w W.heap.size 0 0 0 0 0 [] 0 (.slice none 0 0) ((W.alloc O).alloc (.cells #[.int .i64 0, .int .i64 0, .int .i64 0, .int .i64 0, .int .i64 0, .slice none 0 0] 50)) := by
  have hl := h.lt
  refine ⟨?_, ?_, World.ownsRow_nil _ _ _ _, (h.below.alloc (by omega) O).alloc (by simp <;> omega) _, by simp, hl⟩
  · rw [Below.heap_alloc _ _ _ (by simp <;> omega), Below.heap_alloc _ _ _ hl]; exact h.box
  · have e : (W.alloc O).heap.size = W.heap.size + 1 := by simp
    rw [← e]
    exact heap_alloc_new _ _
theorem Rb.next {w : World} {p : Nat} {n0 n1 n2 n3 n4 : Int} {F : List Value} {k : Nat} {rv : Value} {W W1 : World} (h : Rb w p n0 n1 n2 n3 n4 F k rv W) (hb : Below W.heap.size W W1) : Rb w p n0 n1 n2 n3 n4 F k rv W1 := by
  have hi := h.hi
  have hlo := h.lo
  have hs := hb.size
  refine ⟨(hb.block _ (by omega)).trans h.out, (hb.block _ hi).trans h.box, ownsRow_kept h.row (fun q hq => hb.block q (World.ownsRow.lt h.row q hq).2), h.below.trans (hb.mono (by omega)), by omega, hlo⟩
theorem Rf.next {w w' : World} {q : Nat} {s : RS} (h : Rf w q s) (hb : Below w.heap.size w w') : Rf w' q s := h.kept (hb.block q h.lt)
theorem Rf.start {W : World} (m : List UInt8) (hm : m.length ≤ maxLen) (O : Obj) : Rf ((W.alloc (.cells #[.string (strOf m), .bool false] 59)).alloc O) W.heap.size ⟨m, false⟩ :=
  ⟨(Below.heap_alloc _ _ _ (by simp)).trans (heap_alloc_new W _), hm⟩
theorem Rf.alloc {w : World} {q : Nat} {s : RS} (h : Rf w q s) (O : Obj) : Rf (w.alloc O) q s := h.kept (Below.heap_alloc _ _ _ h.lt)
theorem Rf.set {w : World} {q : Nat} {s : RS} (h : Rf w q s) (g j : Nat) (u : Value) (hg : q ≠ g) : Rf (w.setCell ⟨g, j, none⟩ u) q s := h.kept (Below.heap_setCell w ⟨g, j, none⟩ u q hg)
theorem recR_ok (s : RS) : I64 (recR s).1.time ∧ (recR s).1.key.length ≤ 1000 ∧ (recR s).1.val.length ≤ 1000 := by
  have ht : ∀ s : RS, (textR 1000 s).1.length ≤ 1000 := fun s => by
    unfold textR
    split
    · simp
    · simp; omega
  exact ⟨numS_i64 _, ht _, ht _⟩
theorem recsR_ok : ∀ (n : Nat) (s : RS), ∀ r ∈ (recsR n s).1, I64 r.time ∧ r.key.length ≤ 1000 ∧ r.val.length ≤ 1000
  | 0, s, r, h => by simp [recsR] at h
  | n + 1, s, r, h => by
    simp only [recsR, List.mem_append, List.mem_singleton] at h
    rcases h with h | rfl
    · exact recsR_ok n s r h
    · exact recR_ok _
end Go.Proofs.YtocdlaoklagdoaaDoor
