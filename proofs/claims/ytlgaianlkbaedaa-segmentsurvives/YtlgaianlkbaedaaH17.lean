/- A segment in memory; add. -/
import Derived.Test.YtlgaianlkbaedaaH16
import Derived.Deep.AppendLies
namespace Go.Proofs.Ytlgaianlkbaedaa
open Go.RowKit Go.Maps Go.Sort
set_option maxRecDepth 100000
set_option linter.unusedSimpArgs false
set_option linter.unusedVariables false

def mcells (m : Mk) : List Value := [.int .i64 (m.base : Int), .int .i64 (m.at_ : Int), .int .i64 (m.nth : Int)]
def flatM : List Mk → List Value
  | [] => []
  | m :: r => mcells m ++ flatM r
theorem flatM_length : ∀ l : List Mk, (flatM l).length = l.length * 3
  | [] => rfl
  | m :: r => by simp [flatM, mcells, flatM_length r]; omega
theorem flatM_append : ∀ l m : List Mk, flatM (l ++ m) = flatM l ++ flatM m
  | [], m => rfl
  | x :: r, m => by simp [flatM, flatM_append r m]
theorem flatM_at : ∀ (l : List Mk) (i : Nat) (m : Mk), l[i]? = some m → (flatM l)[i * 3]? = some (.int .i64 (m.base : Int)) ∧ (flatM l)[i * 3 + 1]? = some (.int .i64 (m.at_ : Int)) ∧ (flatM l)[i * 3 + 2]? = some (.int .i64 (m.nth : Int))
  | [], i, m, h => by simp at h
  | y :: r, 0, m, h => by simp at h; subst h; simp [flatM, mcells]
  | y :: r, i + 1, m, h => by
    have ih := flatM_at r i m (by simpa using h)
    have e : ∀ j, (flatM (y :: r))[(i + 1) * 3 + j]? = (flatM r)[i * 3 + j]? := fun j => by
      have e1 : (i + 1) * 3 + j = 3 + (i * 3 + j) := by omega
      rw [e1]
      show ([_, _, _] ++ flatM r)[3 + (i * 3 + j)]? = _
      rw [List.getElem?_append_right (by simp)]
      congr 1
      simp
    refine ⟨?_, ?_, ?_⟩
    · have := e 0; simp only [Nat.add_zero] at this; rw [this]; exact ih.1
    · rw [e 1]; exact ih.2.1
    · rw [e 2]; exact ih.2.2
theorem info61 : ∃ i, Try.prog.info? 61 = some i ∧ i.zero = some (.agg #[.int .i64 0, .int .i64 0, .int .i64 0]) ∧ i.size = 3 ∧ i.bytes = 24 := ⟨_, rfl, rfl, rfl, rfl⟩

/-- A segment: block q, over the disk at block a; its index in a row; all its blocks among U. -/
structure SegM (w : World) (U : Nat → Prop) (q a base : Nat) (name : ByteArray) (m : Mk) (v : Value) (ix : List Mk) : Prop where
  below : ∀ k, U k → k < w.heap.size
  self : U q
  cells : w.heap[q]? = some (.cells #[.pointer (some ⟨a, 0, none⟩), .string name, .int .i64 (base : Int), .int .i64 (m.base : Int), .int .i64 (m.at_ : Int), .int .i64 (m.nth : Int), v] 64)
  row : w.ownsRow 0 61 3 v ix.length (flatM ix)
  rowU : ∀ k, v.ownBlock = some k → U k
theorem SegM.kept {w w1 : World} {U q a base name m v ix} (h : SegM w U q a base name m v ix) (hb : ∀ k, U k → w1.heap[k]? = w.heap[k]?) (hs : w.heap.size ≤ w1.heap.size) : SegM w1 U q a base name m v ix := by
  refine ⟨fun k hk => Nat.lt_of_lt_of_le (h.below k hk) hs, h.self, (hb q h.self).trans h.cells, ⟨h.row.1, ?_⟩, h.rowU⟩
  rcases h.row.2 with h0 | ⟨g, cap, cur, e, hb0, hg, rest⟩
  · exact .inl h0
  · exact .inr ⟨g, cap, cur, e, hb0, (hb g (h.rowU g (by rw [e]; rfl))).trans hg, rest⟩
theorem SegM.under {w w1 : World} {U q a base name m v ix} (h : SegM w U q a base name m v ix) (hb : Below w.heap.size w w1) : SegM w1 U q a base name m v ix := h.kept (fun k hk => hb.block k (h.below k hk)) hb.size
theorem SegM.c {w : World} {U q a base name m v ix} (h : SegM w U q a base name m v ix) : w.cell? ⟨q, 0, none⟩ = some (.pointer (some ⟨a, 0, none⟩)) ∧ w.cell? ⟨q, 1, none⟩ = some (.string name) ∧ w.cell? ⟨q, 2, none⟩ = some (.int .i64 (base : Int)) ∧ w.cell? ⟨q, 3, none⟩ = some (.int .i64 (m.base : Int)) ∧ w.cell? ⟨q, 4, none⟩ = some (.int .i64 (m.at_ : Int)) ∧ w.cell? ⟨q, 5, none⟩ = some (.int .i64 (m.nth : Int)) ∧ w.cell? ⟨q, 6, none⟩ = some v :=
  ⟨cell_at h.cells rfl, cell_at h.cells rfl, cell_at h.cells rfl, cell_at h.cells rfl, cell_at h.cells rfl, cell_at h.cells rfl, cell_at h.cells rfl⟩
theorem SegM.f {w : World} {U q a base name m v ix} (h : SegM w U q a base name m v ix) (j : Nat) : w.frozen? ⟨q, j, none⟩ = false := frozen_blk h.cells j
theorem SegM.shape {w : World} {U q a base name m v ix} (h : SegM w U q a base name m v ix) : ∃ oa cap, v = .slice oa ix.length cap ∧ ix.length ≤ cap ∧ cap ≤ maxLen ∧ (0 < ix.length → ∃ g, oa = some ⟨g, 0, none⟩) := by
  obtain ⟨_, ⟨e, h0⟩ | ⟨g, cap, cur, e, hb, hg, hn, hc, hs, ht⟩⟩ := h.row
  · exact ⟨none, 0, by rw [e, h0], by omega, Nat.zero_le _, fun h => by omega⟩
  · exact ⟨some ⟨g, 0, none⟩, cap, e, hn, hc, fun _ => ⟨g, rfl⟩⟩
theorem SegM.at_ {w : World} {U q a base name m g cap ix} (h : SegM w U q a base name m (.slice (some ⟨g, 0, none⟩) ix.length cap) ix) (i : Nat) (x : Mk) (hx : ix[i]? = some x) :
    w.cell? ⟨g, i * 3, none⟩ = some (.int .i64 (x.base : Int)) ∧ w.cell? ⟨g, i * 3 + 1, none⟩ = some (.int .i64 (x.at_ : Int)) ∧ w.cell? ⟨g, i * 3 + 2, none⟩ = some (.int .i64 (x.nth : Int)) := by
  have hc := fun j u hu => h.row.cells (g := g) rfl j u hu
  have hadd : ∀ j, (⟨g, 0, none⟩ : Addr).add j = ⟨g, j, none⟩ := fun j => by unfold Addr.add; split <;> simp_all
  obtain ⟨h0, h1, h2⟩ := flatM_at ix i x hx
  refine ⟨?_, ?_, ?_⟩
  · have := hc _ _ h0; rw [hadd] at this; exact this
  · have := hc _ _ h1; rw [hadd] at this; exact this
  · have := hc _ _ h2; rw [hadd] at this; exact this
/-- What a call leaves of a segment. -/
def SAfter (U : Nat → Prop) (w w' : World) (q a base : Nat) (name : ByteArray) (m : Mk) (ix : List Mk) : Prop :=
  ∃ U' v', SegM w' U' q a base name m v' ix ∧ (∀ k, U' k → U k ∨ w.heap.size ≤ k) ∧ (∀ k, U k → U' k) ∧ Keeps U w w'
/-- The end is set anew. -/
theorem SegM.setEnd {w : World} {U q a base name m v ix} (h : SegM w U q a base name m v ix) (e : Mk) (hq : v.ownBlock ≠ some q) : SegM (((w.setCell ⟨q, 3, none⟩ (.int .i64 (e.base : Int))).setCell ⟨q, 4, none⟩ (.int .i64 (e.at_ : Int))).setCell ⟨q, 5, none⟩ (.int .i64 (e.nth : Int))) U q a base name e v ix := by
  have hb : ∀ k, k ≠ q → (((w.setCell ⟨q, 3, none⟩ (.int .i64 (e.base : Int))).setCell ⟨q, 4, none⟩ (.int .i64 (e.at_ : Int))).setCell ⟨q, 5, none⟩ (.int .i64 (e.nth : Int))).heap[k]? = w.heap[k]? := fun k hk => by
    rw [Below.heap_setCell _ ⟨q, 5, none⟩ _ k hk, Below.heap_setCell _ ⟨q, 4, none⟩ _ k hk, Below.heap_setCell _ ⟨q, 3, none⟩ _ k hk]
  have hs : (((w.setCell ⟨q, 3, none⟩ (.int .i64 (e.base : Int))).setCell ⟨q, 4, none⟩ (.int .i64 (e.at_ : Int))).setCell ⟨q, 5, none⟩ (.int .i64 (e.nth : Int))).heap.size = w.heap.size := by rw [set_size, set_size, set_size]
  refine ⟨fun k hk => by rw [hs]; exact h.below k hk, h.self, set_box (set_box (set_box h.cells)), ⟨h.row.1, ?_⟩, h.rowU⟩
  rcases h.row.2 with h0 | ⟨g, cap, cur, e, hb0, hg, rest⟩
  · exact .inl h0
  · exact .inr ⟨g, cap, cur, e, hb0, (hb g (fun e2 => hq (by rw [e, e2]; rfl))).trans hg, rest⟩
theorem SegM.off {w : World} {U q a base name m v ix} (h : SegM w U q a base name m v ix) : v.ownBlock ≠ some q := fun e => by
  obtain ⟨_, ⟨e0, _⟩ | ⟨g', cap', cur, e0, hb, hg, _⟩⟩ := h.row
  · rw [e0] at e; cases e
  · rw [e0] at e
    cases e
    have := h.cells
    rw [hg] at this
    cases this
def addB (ix : List Mk) (m : Mk) : Bool := match ix.getLast? with | none => true | some x => decide (256 ≤ (m.at_ : Int) - (x.at_ : Int))
def addL (ix : List Mk) (m : Mk) : List Mk := if addB ix m then ix ++ [m] else ix
end Go.Proofs.Ytlgaianlkbaedaa

