/- A log in memory. -/
import Derived.Test.YtclldpecbocclaaGreatK7
import Derived.Laws.StructEq
namespace Go.Proofs.YtclldpecbocclaaGreat
open Go.RowKit Go.Maps
set_option maxRecDepth 100000
set_option linter.unusedSimpArgs false
set_option linter.unusedVariables false

theorem set_size (W : World) (p : Addr) (u : Value) : (W.setCell p u).heap.size = W.heap.size := by simp [World.setCell]
theorem cell_at {w : World} {g : Nat} {cs : Array Value} {T : TypeId} {mk : Nat × Nat} (h : w.heap[g]? = some (.cells cs T mk)) {j : Nat} {u : Value} (hu : cs[j]? = some u) : w.cell? ⟨g, j, none⟩ = some u := cell_blk h j u hu
theorem add_lit0 (g j : Nat) : (⟨g, 0, none⟩ : Addr).add j = ⟨g, j, none⟩ := by unfold Addr.add; split <;> simp_all
theorem set_box {w : World} {q j : Nat} {cs : Array Value} {T : TypeId} {v : Value} (h : w.heap[q]? = some (.cells cs T)) : (w.setCell ⟨q, j, none⟩ v).heap[q]? = some (.cells (cs.setIfInBounds j v) T) := by
  rw [setCell_eq_setRow w q j _ T (0, 0) v h, setRow_heap w q _ _ T (0, 0) h]
theorem keeps_set (w : World) (q j : Nat) (v : Value) : Keeps (fun k => k = q) w (w.setCell ⟨q, j, none⟩ v) := ⟨rfl, rfl, rfl, by rw [set_size]; exact Nat.le_refl _, fun k hk hn => Below.heap_setCell w ⟨q, j, none⟩ v k hn⟩

def ecells (x : Et) : List Value := [.int .i64 x.t, .int .i64 x.i, .string (strOf x.d)]
def evalue (x : Et) : Value := .agg #[.int .i64 x.t, .int .i64 x.i, .string (strOf x.d)]
def flatT : List Et → List Value
  | [] => []
  | x :: r => ecells x ++ flatT r
theorem flatT_length : ∀ l : List Et, (flatT l).length = l.length * 3
  | [] => rfl
  | m :: r => by simp [flatT, ecells, flatT_length r]; omega
theorem flatT_append : ∀ l m : List Et, flatT (l ++ m) = flatT l ++ flatT m
  | [], m => rfl
  | x :: r, m => by simp [flatT, flatT_append r m]
theorem flatT_at : ∀ (l : List Et) (i : Nat) (m : Et), l[i]? = some m → (flatT l)[i * 3]? = some (.int .i64 m.t) ∧ (flatT l)[i * 3 + 1]? = some (.int .i64 m.i) ∧ (flatT l)[i * 3 + 2]? = some (.string (strOf m.d))
  | [], i, m, h => by simp at h
  | y :: r, 0, m, h => by simp at h; subst h; simp [flatT, ecells]
  | y :: r, i + 1, m, h => by
    have ih := flatT_at r i m (by simpa using h)
    have e : ∀ j, (flatT (y :: r))[(i + 1) * 3 + j]? = (flatT r)[i * 3 + j]? := fun j => by
      have e1 : (i + 1) * 3 + j = 3 + (i * 3 + j) := by omega
      rw [e1]
      show ([_, _, _] ++ flatT r)[3 + (i * 3 + j)]? = _
      rw [List.getElem?_append_right (by simp)]
      congr 1
      simp
    refine ⟨?_, ?_, ?_⟩
    · have := e 0; simp only [Nat.add_zero] at this; rw [this]; exact ih.1
    · rw [e 1]; exact ih.2.1
    · rw [e 2]; exact ih.2.2
theorem flatT_one : ∀ (l : List Et), ∀ u ∈ flatT l, u.oneCell' = true
  | [], u, h => by simp [flatT] at h
  | x :: r, u, h => by
    simp [flatT, ecells] at h
    rcases h with rfl | rfl | rfl | h
    · rfl
    · rfl
    · rfl
    · exact flatT_one r u h
theorem flatT_take : ∀ (l : List Et) (k : Nat), flatT (l.take k) = (flatT l).take (k * 3)
  | [], k => by simp [flatT]
  | x :: r, 0 => by simp [flatT]
  | x :: r, k + 1 => by
    have e : (k + 1) * 3 = k * 3 + 1 + 1 + 1 := by omega
    rw [e]
    simp [flatT, ecells, flatT_take r k]
theorem flatT_drop : ∀ (l : List Et) (k : Nat), flatT (l.drop k) = (flatT l).drop (k * 3)
  | [], k => by simp [flatT]
  | x :: r, 0 => by simp [flatT]
  | x :: r, k + 1 => by
    have e : (k + 1) * 3 = k * 3 + 1 + 1 + 1 := by omega
    rw [e]
    simp [flatT, ecells, flatT_drop r k]
theorem info38 : ∃ i, Tryz.prog.info? 37 = some i ∧ i.zero = some (.agg #[.int .i64 0, .int .i64 0, .string ⟨#[]⟩]) ∧ i.size = 3 ∧ i.bytes = 32 := ⟨_, rfl, rfl, rfl, rfl⟩

/-- Entries in a row of their own. -/
def EL (w : World) (v : Value) (l : List Et) : Prop := w.ownsRow 0 37 3 v l.length (flatT l)
theorem EL.nil (w : World) : EL w (.slice none 0 0) [] := ⟨rfl, .inl ⟨rfl, rfl⟩⟩
theorem EL.shape {w : World} {v : Value} {l : List Et} (h : EL w v l) : ∃ oa cap, v = .slice oa l.length cap ∧ l.length ≤ cap ∧ cap ≤ maxLen ∧ (oa = none → cap = 0) ∧ (0 < l.length → ∃ g, oa = some ⟨g, 0, none⟩) := by
  obtain ⟨_, ⟨e, h0⟩ | ⟨g, cap, cur, e, hb, hg, hn, hc, hs, ht⟩⟩ := h
  · exact ⟨none, 0, by rw [e, h0], by omega, Nat.zero_le _, fun _ => rfl, fun h => by omega⟩
  · exact ⟨some ⟨g, 0, none⟩, cap, e, hn, hc, (fun h => by cases h), fun _ => ⟨g, rfl⟩⟩
theorem EL.shape2 {w : World} {v : Value} {l : List Et} (h : EL w v l) : (v = .slice none 0 0 ∧ l = []) ∨ ∃ g cap, v = .slice (some ⟨g, 0, none⟩) l.length cap ∧ l.length ≤ cap ∧ cap ≤ maxLen := by
  obtain ⟨_, ⟨e, h0⟩ | ⟨g, cap, cur, e, hb, hg, hn, hc, hs, ht⟩⟩ := h
  · exact .inl ⟨e, List.eq_nil_of_length_eq_zero h0⟩
  · exact .inr ⟨g, cap, e, hn, hc⟩
theorem EL.cellsAt {w : World} {g n cap : Nat} {l : List Et} (h : EL w (.slice (some ⟨g, 0, none⟩) n cap) l) : ∀ j u, (flatT l)[j]? = some u → w.cell? ⟨g, j, none⟩ = some u := fun j u hu => by
  have k := World.ownsRow.cells h (g := g) rfl j u hu
  rwa [add_lit0] at k
theorem EL.at_ {w : World} {g n cap : Nat} {l : List Et} (h : EL w (.slice (some ⟨g, 0, none⟩) n cap) l) (i : Nat) (x : Et) (hx : l[i]? = some x) :
    w.cell? ⟨g, i * 3, none⟩ = some (.int .i64 x.t) ∧ w.cell? ⟨g, i * 3 + 1, none⟩ = some (.int .i64 x.i) ∧ w.cell? ⟨g, i * 3 + 2, none⟩ = some (.string (strOf x.d)) := by
  obtain ⟨h0, h1, h2⟩ := flatT_at l i x hx
  exact ⟨h.cellsAt _ _ h0, h.cellsAt _ _ h1, h.cellsAt _ _ h2⟩
theorem EL.lt {w : World} {v : Value} {l : List Et} (h : EL w v l) : ∀ k, v.ownBlock = some k → k < w.heap.size := fun k hk => (World.ownsRow.lt h k hk).2
theorem EL.kept {w w1 : World} {v : Value} {l : List Et} (h : EL w v l) (hb : ∀ k, v.ownBlock = some k → w1.heap[k]? = w.heap[k]?) : EL w1 v l := by
  obtain ⟨h1, h2⟩ := h
  rcases h2 with h2 | ⟨g, cap, cur, rfl, hB, hg, r⟩
  · exact ⟨h1, .inl h2⟩
  · exact ⟨h1, .inr ⟨g, cap, cur, rfl, hB, (hb g rfl).trans hg, r⟩⟩
theorem EL.under {w w1 : World} {v : Value} {l : List Et} (h : EL w v l) (hb : Below w.heap.size w w1) : EL w1 v l := h.kept (fun k hk => hb.block k (h.lt k hk))
theorem EL.take {w : World} {oa : Option Addr} {n cap : Nat} {l : List Et} (h : EL w (.slice oa n cap) l) (k : Nat) (hk : k ≤ l.length) : EL w (.slice oa k cap) (l.take k) := by
  have hl : (l.take k).length = k := by rw [List.length_take]; omega
  obtain ⟨h1, h2⟩ := h
  refine ⟨by rw [flatT_length], ?_⟩
  rcases h2 with ⟨e, h0⟩ | ⟨g, c, cur, e, hB, hg, hn, hc, hs, ht⟩
  · cases e
    have : k = 0 := by omega
    subst this
    exact .inl ⟨rfl, hl⟩
  · cases e
    refine .inr ⟨g, cap, cur, by rw [hl], hB, hg, by omega, hc, hs, ?_⟩
    rw [hl, flatT_take, ← ht, List.take_take]
    congr 1
    omega
/-- Entries that lie anywhere. -/
def EAt (w : World) (oa : Option Addr) (l : List Et) : Prop := 0 < l.length → ∃ g o, oa = some ⟨g, o, none⟩ ∧ g < w.heap.size ∧ ∀ j u, (flatT l)[j]? = some u → w.cell? ⟨g, o + j, none⟩ = some u
theorem EAt.kept {w w1 : World} {oa : Option Addr} {l : List Et} (h : EAt w oa l) (hs : w.heap.size ≤ w1.heap.size) (hb : ∀ k, (∀ a, oa = some a → a.block = k) → k < w.heap.size → w1.heap[k]? = w.heap[k]?) : EAt w1 oa l := fun h0 => by
  obtain ⟨g, o, rfl, hg, hc⟩ := h h0
  refine ⟨g, o, rfl, by omega, fun j u hu => ?_⟩
  rw [World.cell?_of_block (a := ⟨g, o + j, none⟩) (hb g (fun a ha => by cases ha; rfl) hg)]
  exact hc j u hu
theorem EAt.under {w w1 : World} {oa : Option Addr} {l : List Et} (h : EAt w oa l) (hb : Below w.heap.size w w1) : EAt w1 oa l := h.kept hb.size (fun k _ hk => hb.block k hk)
theorem EAt.drop {w : World} {g o : Nat} {l : List Et} (h : EAt w (some ⟨g, o, none⟩) l) (k : Nat) : EAt w (some ⟨g, o + k * 3, none⟩) (l.drop k) := fun h0 => by
  have hl : 0 < l.length := by rw [List.length_drop] at h0; omega
  obtain ⟨g', o', e, hg, hc⟩ := h hl
  cases e
  refine ⟨g, o + k * 3, rfl, hg, fun j u hu => ?_⟩
  rw [flatT_drop, List.getElem?_drop] at hu
  have := hc _ _ hu
  rwa [← Nat.add_assoc] at this
theorem EAt.at_ {w : World} {g o : Nat} {l : List Et} (h : EAt w (some ⟨g, o, none⟩) l) (i : Nat) (x : Et) (hx : l[i]? = some x) :
    w.cell? ⟨g, o + i * 3, none⟩ = some (.int .i64 x.t) ∧ w.cell? ⟨g, o + i * 3 + 1, none⟩ = some (.int .i64 x.i) ∧ w.cell? ⟨g, o + i * 3 + 2, none⟩ = some (.string (strOf x.d)) := by
  obtain ⟨g', o', e, hg, hc⟩ := h (by have := (List.getElem?_eq_some_iff.1 hx).1; omega)
  cases e
  obtain ⟨h0, h1, h2⟩ := flatT_at l i x hx
  exact ⟨hc _ _ h0, hc _ _ h1, hc _ _ h2⟩
theorem EL.at {w : World} {oa : Option Addr} {n cap : Nat} {l : List Et} (h : EL w (.slice oa n cap) l) : EAt w oa l := fun h0 => by
  obtain ⟨oa', cap', e, _, _, _, hg⟩ := h.shape
  cases e
  obtain ⟨g, rfl⟩ := hg h0
  exact ⟨g, 0, rfl, h.lt g rfl, fun j u hu => by rw [Nat.zero_add]; exact h.cellsAt j u hu⟩

/-- A log: block q, over the disk at block a; all its blocks among U. -/
structure LogM (w : World) (U : Nat → Prop) (q a : Nat) (v : Value) (s : LSt) : Prop where
  below : ∀ k, U k → k < w.heap.size
  self : U q
  box : w.heap[q]? = some (.cells #[.int .i64 s.term, .int .i64 s.vote, .int .i64 s.snap.t, .int .i64 s.snap.i, .string (strOf s.snap.d), v, .pointer (some ⟨a, 0, none⟩), .string ⟨#[114]⟩] 41)
  ents : EL w v s.list
  own : ∀ k, v.ownBlock = some k → U k ∧ k ≠ q
theorem LogM.kept {w w1 : World} {U q a v s} (h : LogM w U q a v s) (hb : ∀ k, U k → w1.heap[k]? = w.heap[k]?) (hs : w.heap.size ≤ w1.heap.size) : LogM w1 U q a v s :=
  ⟨fun k hk => Nat.lt_of_lt_of_le (h.below k hk) hs, h.self, (hb q h.self).trans h.box, h.ents.kept (fun k hk => hb k (h.own k hk).1), h.own⟩
theorem LogM.under {w w1 : World} {U q a v s} (h : LogM w U q a v s) (hb : Below w.heap.size w w1) : LogM w1 U q a v s := h.kept (fun k hk => hb.block k (h.below k hk)) hb.size
theorem LogM.beside {w w1 : World} {U T : Nat → Prop} {q a v s} (h : LogM w U q a v s) (hk : Keeps T w w1) (hd : ∀ k, U k → ¬ T k) : LogM w1 U q a v s :=
  h.kept (fun k hU => hk.block k (h.below k hU) (hd k hU)) hk.size
/-- The cells of a log. -/
structure LC (w : World) (q a : Nat) (v : Value) (s : LSt) : Prop where
  c0 : w.cell? ⟨q, 0, none⟩ = some (.int .i64 s.term)
  c1 : w.cell? ⟨q, 1, none⟩ = some (.int .i64 s.vote)
  c2 : w.cell? ⟨q, 2, none⟩ = some (.int .i64 s.snap.t)
  c3 : w.cell? ⟨q, 3, none⟩ = some (.int .i64 s.snap.i)
  c4 : w.cell? ⟨q, 4, none⟩ = some (.string (strOf s.snap.d))
  c5 : w.cell? ⟨q, 5, none⟩ = some v
  c6 : w.cell? ⟨q, 6, none⟩ = some (.pointer (some ⟨a, 0, none⟩))
  c7 : w.cell? ⟨q, 7, none⟩ = some (.string ⟨#[114]⟩)
theorem LogM.c {w : World} {U q a v s} (h : LogM w U q a v s) : LC w q a v s :=
  ⟨cell_at h.box rfl, cell_at h.box rfl, cell_at h.box rfl, cell_at h.box rfl, cell_at h.box rfl, cell_at h.box rfl, cell_at h.box rfl, cell_at h.box rfl⟩
theorem LogM.f {w : World} {U q a v s} (h : LogM w U q a v s) (j : Nat) : w.frozen? ⟨q, j, none⟩ = false := frozen_blk h.box j
theorem LogM.lt {w : World} {U q a v s} (h : LogM w U q a v s) : q < w.heap.size := h.below q h.self
end Go.Proofs.YtclldpecbocclaaGreat

