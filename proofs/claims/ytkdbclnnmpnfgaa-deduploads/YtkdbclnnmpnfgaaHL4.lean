/- The document's Load: its two marks beside the reader and the table. -/
import Derived.Test.YtkdbclnnmpnfgaaHL3
namespace Go.Proofs.Ytkdbclnnmpnfgaa
open Go.RowKit Go.Maps
set_option maxRecDepth 100000
set_option linter.unusedSimpArgs false
set_option linter.unusedVariables false

theorem lt_blk {W : World} {b : Nat} {O : Obj} (h : W.heap[b]? = some O) : b < W.heap.size := (Array.getElem?_eq_some_iff.1 h).1
theorem blk_alloc {W : World} {b : Nat} {O : Obj} (h : W.heap[b]? = some O) (O' : Obj) : (W.alloc O').heap[b]? = some O := by
  rw [Below.heap_alloc _ _ _ (lt_blk h)]; exact h
/-- The mark ahead. -/
structure R1x (w0 W : World) (rq r : Nat) (s : RS) (ms : List Mk) (v : Value) (pw : Nat) (cw : Array Value) : Prop where
  rl : RL w0 W rq r s ms v
  bw : W.heap[pw]? = some (.cells cw 70)
  nw : pw ≠ rq ∧ pw ≠ r ∧ w0.heap.size ≤ pw ∧ v.ownBlock ≠ some pw
/-- And the mark that is read. -/
structure R2x (w0 W : World) (rq r : Nat) (s : RS) (ms : List Mk) (v : Value) (pw : Nat) (cw : Array Value) (px : Nat) (cx : Array Value) : Prop where
  rl : RL w0 W rq r s ms v
  bw : W.heap[pw]? = some (.cells cw 70)
  nw : pw ≠ rq ∧ pw ≠ r ∧ w0.heap.size ≤ pw ∧ v.ownBlock ≠ some pw
  bx : W.heap[px]? = some (.cells cx 70)
  nx : px ≠ rq ∧ px ≠ r ∧ w0.heap.size ≤ px ∧ v.ownBlock ≠ some px
  ne : px ≠ pw
theorem RL.was {w0 W : World} {rq r s ms v} (h : RL w0 W rq r s ms v) (cw : Array Value) : R1x w0 (W.alloc (.cells cw 70)) rq r s ms v W.heap.size cw := by
  have hb := (Below.refl W.heap.size W).alloc (Nat.le_refl _) (.cells cw 70)
  refine ⟨h.under hb, heap_alloc_new W _, ?_, ?_, h.below.size, fun e => ?_⟩
  · have := h.rd.lt; omega
  · have := h.rlt; omega
  · have := (h.row.lt _ e).2; omega
theorem R1x.next {w0 W : World} {rq r s ms v pw cw} (h : R1x w0 W rq r s ms v pw cw) (cx : Array Value) : R2x w0 (W.alloc (.cells cx 70)) rq r s ms v pw cw W.heap.size cx := by
  have h1 := h.rl.was cx
  refine ⟨h1.rl, blk_alloc h.bw _, h.nw, h1.bw, h1.nw, ?_⟩
  have := lt_blk h.bw
  omega
theorem R2x.num {w0 W : World} {rq r s ms v pw cw px cx} (h : R2x w0 W rq r s ms v pw cw px cx) : Calls Try.prog 53 #[.pointer (some ⟨rq, 0, none⟩)] W fun e w' => e = .returned (.int .i64 (numS s).1) ∧ R2x w0 w' rq r (numS s).2 ms v pw cw px cx :=
  h.rl.num.mono fun e w' ⟨g1, g2, g3⟩ => ⟨g1, g2, (g3.block pw (lt_blk h.bw) (fun e => h.nw.1 (by cases e; rfl))).trans h.bw, h.nw, (g3.block px (lt_blk h.bx) (fun e => h.nx.1 (by cases e; rfl))).trans h.bx, h.nx, h.ne⟩
theorem R2x.set {w0 W : World} {rq r s ms v pw cw px cx} (h : R2x w0 W rq r s ms v pw cw px cx) (j : Nat) (u : Value) : R2x w0 (W.setCell ⟨px, j, none⟩ u) rq r s ms v pw cw px (cx.setIfInBounds j u) :=
  ⟨h.rl.other px j u h.nx.2.2.1 h.nx.1 h.nx.2.1 (fun k hk e => h.nx.2.2.2 (by rw [← e]; exact hk)), (Below.heap_setCell W ⟨px, j, none⟩ u pw (fun e => h.ne e.symm)).trans h.bw, h.nw, set_box h.bx, h.nx, h.ne⟩
theorem R1x.setw {w0 W : World} {rq r s ms v pw cw} (h : R1x w0 W rq r s ms v pw cw) (j : Nat) (u : Value) : R1x w0 (W.setCell ⟨pw, j, none⟩ u) rq r s ms v pw (cw.setIfInBounds j u) :=
  ⟨h.rl.other pw j u h.nw.2.2.1 h.nw.1 h.nw.2.1 (fun k hk e => h.nw.2.2.2 (by rw [← e]; exact hk)), set_box h.bw, h.nw⟩
theorem R2x.drewN {w0 W : World} {rq r s ms v pw cw px cx} (h : R2x w0 W rq r s ms v pw cw px cx) (n : Nat) : R2x w0 (W.drewN n) rq r s ms v pw cw px cx :=
  ⟨⟨h.rl.rd.kept rfl, h.rl.cells, h.rl.row.kept (fun _ _ => rfl), h.rl.own, h.rl.ne, h.rl.lo, below_drewN h.rl.below n⟩, h.bw, h.nw, h.bx, h.nx, h.ne⟩
theorem R2x.one {w0 W : World} {rq r s ms v pw cw px cx} (h : R2x w0 W rq r s ms v pw cw px cx) : R1x w0 W rq r s ms v pw cw := ⟨h.rl, h.bw, h.nw⟩
/-- The mark is put behind the others. -/
theorem R2x.push {w0 W W' w' : World} {rq r s ms v pw cw px cx v' x} (h : R2x w0 W rq r s ms v pw cw px cx) (hb : Below W.heap.size W W') (hown : w'.ownsRow w0.heap.size 70 5 v' (ms.length + 1) (flatM ms ++ mcells x)) (hg : W'.grownBy w' v.ownBlock) (hat : v'.ownBlock = v.ownBlock ∨ v'.ownBlock = some W'.heap.size) : R2x w0 (w'.setCell ⟨r, 0, none⟩ v') rq r s (ms ++ [x]) v' pw cw px cx := by
  have h1 := h.rl.push hb hown hg hat
  have hs := hb.size
  have key : ∀ p cs, W.heap[p]? = some (.cells cs 70) → p ≠ r → v.ownBlock ≠ some p → (w'.setCell ⟨r, 0, none⟩ v').heap[p]? = some (.cells cs 70) ∧ v'.ownBlock ≠ some p := fun p cs hp hr hv => by
    have hlt := lt_blk hp
    refine ⟨?_, fun e => ?_⟩
    · rw [Below.heap_setCell w' ⟨r, 0, none⟩ v' p hr, hg.block p (by omega) (fun e => hv e.symm), hb.block p hlt]
      exact hp
    · rcases hat with a | a
      · exact hv (by rw [← a]; exact e)
      · rw [a] at e; cases e; omega
  obtain ⟨k1, k2⟩ := key pw cw h.bw h.nw.2.1 h.nw.2.2.2
  obtain ⟨k3, k4⟩ := key px cx h.bx h.nx.2.1 h.nx.2.2.2
  exact ⟨h1, k1, ⟨h.nw.1, h.nw.2.1, h.nw.2.2.1, k2⟩, k3, ⟨h.nx.1, h.nx.2.1, h.nx.2.2.1, k4⟩, h.ne⟩
theorem R2x.c {w0 W : World} {rq r s ms v pw px} {a0 a1 a2 a3 a4 b0 b1 b2 b3 b4 : Value} (h : R2x w0 W rq r s ms v pw #[a0, a1, a2, a3, a4] px #[b0, b1, b2, b3, b4]) :
    (W.cell? ⟨pw, 0, none⟩ = some a0 ∧ W.cell? ⟨pw, 1, none⟩ = some a1 ∧ W.cell? ⟨pw, 2, none⟩ = some a2 ∧ W.cell? ⟨pw, 3, none⟩ = some a3 ∧ W.cell? ⟨pw, 4, none⟩ = some a4) ∧
    (W.cell? ⟨px, 0, none⟩ = some b0 ∧ W.cell? ⟨px, 1, none⟩ = some b1 ∧ W.cell? ⟨px, 2, none⟩ = some b2 ∧ W.cell? ⟨px, 3, none⟩ = some b3 ∧ W.cell? ⟨px, 4, none⟩ = some b4) ∧
    (∀ j, W.frozen? ⟨px, j, none⟩ = false) ∧ (∀ j, W.frozen? ⟨pw, j, none⟩ = false) :=
  ⟨⟨cell_blk h.bw 0 _ rfl, cell_blk h.bw 1 _ rfl, cell_blk h.bw 2 _ rfl, cell_blk h.bw 3 _ rfl, cell_blk h.bw 4 _ rfl⟩, ⟨cell_blk h.bx 0 _ rfl, cell_blk h.bx 1 _ rfl, cell_blk h.bx 2 _ rfl, cell_blk h.bx 3 _ rfl, cell_blk h.bx 4 _ rfl⟩, fun j => frozen_blk h.bx j, fun j => frozen_blk h.bw j⟩
end Go.Proofs.Ytkdbclnnmpnfgaa

