/- The document's Load: what it stands on. -/
import Derived.Test.YtkdbclnnmpnfgaaHR4
import Derived.Test.YtkdbclnnmpnfgaaHL2
namespace Go.Proofs.Ytkdbclnnmpnfgaa
open Go.RowKit Go.Maps
set_option maxRecDepth 100000
set_option linter.unusedSimpArgs false
set_option linter.unusedVariables false

/-- A reader and a table of the document's, behind a world's end. -/
structure RL (w0 W : World) (rq r : Nat) (s : RS) (ms : List Mk) (v : Value) : Prop where
  rd : Rf W rq s
  cells : W.heap[r]? = some (.cells #[v] 58 (0, 0))
  row : ML W w0.heap.size v ms
  own : ∀ k, v.ownBlock = some k → k ≠ rq ∧ k ≠ r
  ne : rq ≠ r
  lo : w0.heap.size ≤ rq ∧ w0.heap.size ≤ r
  below : Below w0.heap.size w0 W
theorem RL.under {w0 W W' : World} {rq r s ms v} (h : RL w0 W rq r s ms v) (hb : Below W.heap.size W W') : RL w0 W' rq r s ms v :=
  ⟨h.rd.kept (hb.block rq h.rd.lt), (hb.block r (Array.getElem?_eq_some_iff.1 h.cells).1).trans h.cells, h.row.under hb, h.own, h.ne, h.lo, h.below.trans (hb.mono h.below.size)⟩
theorem RL.rlt {w0 W : World} {rq r s ms v} (h : RL w0 W rq r s ms v) : r < W.heap.size := (Array.getElem?_eq_some_iff.1 h.cells).1
/-- The reader turns alone. -/
theorem RL.read {w0 W W' : World} {rq r s s' ms v} (h : RL w0 W rq r s ms v) (hr : Rf W' rq s') (hg : W.grownBy W' (some rq)) : RL w0 W' rq r s' ms v := by
  refine ⟨hr, (hg.block r h.rlt (fun e => h.ne (by cases e; rfl))).trans h.cells, h.row.kept (fun k hk => hg.block k (h.row.lt k hk).2 (fun e => (h.own k hk).1 (by cases e; rfl))), h.own, h.ne, h.lo, ?_⟩
  exact h.below.grown hg h.below.size (fun k hk => by cases hk; exact h.lo.1)
theorem RL.num {w0 W : World} {rq r s ms v} (h : RL w0 W rq r s ms v) : Calls Try.prog 53 #[.pointer (some ⟨rq, 0, none⟩)] W fun e w' => e = .returned (.int .i64 (numS s).1) ∧ RL w0 w' rq r (numS s).2 ms v ∧ W.grownBy w' (some rq) :=
  (rnumber_any h.rd).mono fun e w' ⟨g1, g2, g3⟩ => ⟨g1, h.read g2 g3, g3⟩
/-- Another block turns. -/
theorem RL.other {w0 W : World} {rq r s ms v} (h : RL w0 W rq r s ms v) (b j : Nat) (u : Value) (hb : w0.heap.size ≤ b) (h1 : b ≠ rq) (h2 : b ≠ r) (h3 : ∀ k, v.ownBlock = some k → k ≠ b) : RL w0 (W.setCell ⟨b, j, none⟩ u) rq r s ms v :=
  ⟨h.rd.kept (Below.heap_setCell W ⟨b, j, none⟩ u rq (fun e => h1 e.symm)), (Below.heap_setCell W ⟨b, j, none⟩ u r (fun e => h2 e.symm)).trans h.cells, h.row.kept (fun k hk => Below.heap_setCell W ⟨b, j, none⟩ u k (h3 k hk)), h.own, h.ne, h.lo, h.below.setCell (p := ⟨b, j, none⟩) hb _⟩
/-- A mark more. -/
theorem RL.push {w0 W W' w' : World} {rq r s ms v v' x} (h : RL w0 W rq r s ms v) (hb : Below W.heap.size W W') (hown : w'.ownsRow w0.heap.size 70 5 v' (ms.length + 1) (flatM ms ++ mcells x)) (hg : W'.grownBy w' v.ownBlock) (hat : v'.ownBlock = v.ownBlock ∨ v'.ownBlock = some W'.heap.size) : RL w0 (w'.setCell ⟨r, 0, none⟩ v') rq r s (ms ++ [x]) v' := by
  have h1 := h.under hb
  have hM : ML w' w0.heap.size v' (ms ++ [x]) := ML.push (w := w0) hown
  have hr1 : w'.heap[rq]? = W'.heap[rq]? := hg.block rq h1.rd.lt (fun e => (h.own rq e.symm).1 rfl)
  have hr2 : w'.heap[r]? = W'.heap[r]? := hg.block r h1.rlt (fun e => (h.own r e.symm).2 rfl)
  have hown2 : ∀ k, v'.ownBlock = some k → k ≠ rq ∧ k ≠ r := fun k hk => by
    rcases hat with e | e
    · exact h.own k (by rw [← e]; exact hk)
    · rw [e] at hk; cases hk
      have := h1.rd.lt
      have := h1.rlt
      exact ⟨by omega, by omega⟩
  refine ⟨(h1.rd.kept hr1).kept (Below.heap_setCell w' ⟨r, 0, none⟩ v' rq h.ne), set_box (j := 0) (u := v') (hr2.trans h1.cells), hM.kept (fun k hk => Below.heap_setCell w' ⟨r, 0, none⟩ v' k (hown2 k hk).2), hown2, h.ne, h.lo, ?_⟩
  exact (h1.below.grown hg h1.below.size (fun k hk => (h.row.lt k hk).1)).setCell (p := ⟨r, 0, none⟩) h.lo.2 _
theorem RL.c {w0 W : World} {rq r s ms v} (h : RL w0 W rq r s ms v) : W.cell? ⟨rq, 0, none⟩ = some (.string (strOf s.rest)) ∧ W.cell? ⟨rq, 1, none⟩ = some (.bool s.wrong) ∧ W.cell? ⟨r, 0, none⟩ = some v ∧ W.frozen? ⟨r, 0, none⟩ = false := ⟨h.rd.c0, h.rd.c1, cell_blk h.cells 0 _ rfl, frozen_blk h.cells 0⟩
/- Without memory. -/
/-- How much there is to read yet. -/
def leftN (s : RS) : Nat := if s.wrong = true then 0 else s.rest.length + 1
theorem num_left (s : RS) (h : s.wrong = false) : leftN (numS s).2 < leftN s := by
  unfold leftN
  rw [h]
  cases hw : (numS s).2.wrong with
  | true => simp
  | false =>
    have h1 := (num_inv hw).2
    have h2 := congrArg List.length h1
    have h3 := (intL_length (numS s).1).1
    rw [List.length_append] at h2
    simp
    omega
theorem num_left_le (s : RS) : leftN (numS s).2 ≤ leftN s := by
  cases h : s.wrong with
  | false => exact Nat.le_of_lt (num_left s h)
  | true =>
    have : (numS s).2.wrong = true := by
      unfold numS
      split
      · exact h
      · rfl
    unfold leftN
    rw [this]
    simp
theorem num_len (s : RS) : (numS s).2.rest.length ≤ s.rest.length := by
  unfold numS
  split
  · simp
  · simp [spoiled]
/-- May the mark not stand there? As the document asks. -/
def badX (k : Nat) (was x : Nt) : Bool := !rightNt x || decide (x.off ≤ was.off) || decide (x.ep < was.ep) || (decide (0 < k) && decide (x.ep = was.ep) && decide (x.seq < was.seq + was.n))
def was0 : Nt := ⟨0, 0, 0, -1⟩
end Go.Proofs.Ytkdbclnnmpnfgaa

