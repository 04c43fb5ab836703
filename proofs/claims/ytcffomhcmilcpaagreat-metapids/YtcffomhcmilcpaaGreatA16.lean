/- One row of an image is another one. -/
import Derived.Test.YtcffomhcmilcpaaGreatA13
namespace Go.Proofs.YtcffomhcmilcpaaGreat
open Go.RowKit Go.Maps
set_option maxRecDepth 100000
set_option linter.unusedSimpArgs false
set_option linter.unusedVariables false

section
variable {w w3 : World} {L : Nat → Prop} {q b : Nat} {vt vp ve v2 : Value} {ps : List (Value × Pt)} {I : Im}
theorem ImC.swapE (h : ImC w L q b vt vp ve ps I) {l2 : List Int} (hs : w.heap.size ≤ w3.heap.size) (hoth : ∀ k, k < w.heap.size → k ≠ q → ve.ownBlock ≠ some k → w3.heap[k]? = w.heap[k]?)
    (hq : w3.heap[q]? = some (.cells #[.int .i64 I.applied, .map (some b), vt, vp, v2] 70)) (hrow : w3.ownsRow 0 3 1 v2 l2.length (intsV l2)) (hnew : ∀ k, v2.ownBlock = some k → ve.ownBlock = some k ∨ w.heap.size ≤ k) (hok : ImOk { I with eps := l2 }) : ImC w3 L q b vt vp v2 ps { I with eps := l2 } := by
  refine ⟨hq, ?_, row_kept h.tops (fun k hk => hoth k (row_lt h.tops hk) (fun e => h.ne_q.1 (by rw [← e]; exact hk)) (h.ne_rows.2.1 hk)), row_kept h.parts (fun k hk => hoth k (row_lt h.parts hk) (fun e => h.ne_q.2.1 (by rw [← e]; exact hk)) (h.ne_rows.2.2 hk)), hrow, fun x hx => ?_, h.abs, fun k hk => ⟨Nat.lt_of_lt_of_le (h.lists k hk).1 hs, ?_⟩, hok⟩
  · obtain ⟨es, clock, hm, r⟩ := h.bmap
    exact ⟨es, clock, (hoth b h.bmap.lt (fun e => h.ne_qb e.symm) h.ne_b.2.2).trans hm, r⟩
  · obtain ⟨h1, h2⟩ := h.each x hx
    exact ⟨h1.kept h2 (fun k hk => hoth k (h.lists k hk).1 (fun e => (h.lists k hk).2 (.inl e)) (fun e => (h.lists k hk).2 (.inr (.inr (.inr (.inr e)))))) hs, h2⟩
  · rintro (e | e | e | e | e)
    · exact (h.lists k hk).2 (.inl e)
    · exact (h.lists k hk).2 (.inr (.inl e))
    · exact (h.lists k hk).2 (.inr (.inr (.inl e)))
    · exact (h.lists k hk).2 (.inr (.inr (.inr (.inl e))))
    · rcases hnew k e with e | e
      · exact (h.lists k hk).2 (.inr (.inr (.inr (.inr e))))
      · have := (h.lists k hk).1; omega
theorem ImC.swapT (h : ImC w L q b vt vp ve ps I) {l2 : List Tp} (hs : w.heap.size ≤ w3.heap.size) (hoth : ∀ k, k < w.heap.size → k ≠ q → vt.ownBlock ≠ some k → w3.heap[k]? = w.heap[k]?)
    (hq : w3.heap[q]? = some (.cells #[.int .i64 I.applied, .map (some b), v2, vp, ve] 70)) (hrow : w3.ownsRow 0 96 3 v2 l2.length (flatT l2)) (hnew : ∀ k, v2.ownBlock = some k → vt.ownBlock = some k ∨ w.heap.size ≤ k) (hok : ImOk { I with tops := l2 }) : ImC w3 L q b v2 vp ve ps { I with tops := l2 } := by
  refine ⟨hq, ?_, hrow, row_kept h.parts (fun k hk => hoth k (row_lt h.parts hk) (fun e => h.ne_q.2.1 (by rw [← e]; exact hk)) (fun e => h.ne_rows.1 e hk)), row_kept h.eps (fun k hk => hoth k (row_lt h.eps hk) (fun e => h.ne_q.2.2 (by rw [← e]; exact hk)) (fun e => h.ne_rows.2.1 e hk)), fun x hx => ?_, h.abs, fun k hk => ⟨Nat.lt_of_lt_of_le (h.lists k hk).1 hs, ?_⟩, hok⟩
  · obtain ⟨es, clock, hm, r⟩ := h.bmap
    exact ⟨es, clock, (hoth b h.bmap.lt (fun e => h.ne_qb e.symm) h.ne_b.1).trans hm, r⟩
  · obtain ⟨h1, h2⟩ := h.each x hx
    exact ⟨h1.kept h2 (fun k hk => hoth k (h.lists k hk).1 (fun e => (h.lists k hk).2 (.inl e)) (fun e => (h.lists k hk).2 (.inr (.inr (.inl e))))) hs, h2⟩
  · rintro (e | e | e | e | e)
    · exact (h.lists k hk).2 (.inl e)
    · exact (h.lists k hk).2 (.inr (.inl e))
    · rcases hnew k e with e | e
      · exact (h.lists k hk).2 (.inr (.inr (.inl e)))
      · have := (h.lists k hk).1; omega
    · exact (h.lists k hk).2 (.inr (.inr (.inr (.inl e))))
    · exact (h.lists k hk).2 (.inr (.inr (.inr (.inr e))))
/-- One state more. -/
theorem ImC.swapP (h : ImC w L q b vt vp ve ps I) {X : Nat → Prop} {v : Value} {p : Pt} (hs : w.heap.size ≤ w3.heap.size) (hoth : ∀ k, k < w.heap.size → k ≠ q → vp.ownBlock ≠ some k → w3.heap[k]? = w.heap[k]?)
    (hq : w3.heap[q]? = some (.cells #[.int .i64 I.applied, .map (some b), vt, v2, ve] 70)) (hrow : w3.ownsRow 0 54 9 v2 (ps.length + 1) (flatP (ps ++ [(v, p)]))) (hnew : ∀ k, v2.ownBlock = some k → vp.ownBlock = some k ∨ w.heap.size ≤ k)
    (hpm : PartM w3 v p) (hX : InP X v p) (hXl : ∀ k, X k → k < w3.heap.size ∧ w.heap.size ≤ k ∧ v2.ownBlock ≠ some k) (hok : ImOk { I with parts := I.parts ++ [p] }) : ImC w3 (fun k => L k ∨ X k) q b vt v2 ve (ps ++ [(v, p)]) { I with parts := I.parts ++ [p] } := by
  refine ⟨hq, ?_, row_kept h.tops (fun k hk => hoth k (row_lt h.tops hk) (fun e => h.ne_q.1 (by rw [← e]; exact hk)) (h.ne_rows.1 hk)), by rw [List.length_append]; exact hrow, row_kept h.eps (fun k hk => hoth k (row_lt h.eps hk) (fun e => h.ne_q.2.2 (by rw [← e]; exact hk)) (fun e => h.ne_rows.2.2 e hk)), fun x hx => ?_, ?_, fun k hk => ?_, hok⟩
  · obtain ⟨es, clock, hm, r⟩ := h.bmap
    exact ⟨es, clock, (hoth b h.bmap.lt (fun e => h.ne_qb e.symm) h.ne_b.2.1).trans hm, r⟩
  · rcases List.mem_append.1 hx with hx | hx
    · obtain ⟨h1, h2⟩ := h.each x hx
      exact ⟨h1.kept h2 (fun k hk => hoth k (h.lists k hk).1 (fun e => (h.lists k hk).2 (.inl e)) (fun e => (h.lists k hk).2 (.inr (.inr (.inr (.inl e)))))) hs, h2.mono fun k hk => .inl hk⟩
    · simp at hx
      subst hx
      exact ⟨hpm, hX.mono fun k hk => .inr hk⟩
  · simp [h.abs]
  · rcases hk with hk | hk
    · refine ⟨Nat.lt_of_lt_of_le (h.lists k hk).1 hs, ?_⟩
      rintro (e | e | e | e | e)
      · exact (h.lists k hk).2 (.inl e)
      · exact (h.lists k hk).2 (.inr (.inl e))
      · exact (h.lists k hk).2 (.inr (.inr (.inl e)))
      · rcases hnew k e with e | e
        · exact (h.lists k hk).2 (.inr (.inr (.inr (.inl e))))
        · have := (h.lists k hk).1; omega
      · exact (h.lists k hk).2 (.inr (.inr (.inr (.inr e))))
    · obtain ⟨x1, x2, x3⟩ := hXl k hk
      refine ⟨x1, ?_⟩
      rintro (e | e | e | e | e)
      · have := h.lt (.inl e); omega
      · have := h.lt (.inr (.inl e)); omega
      · have := h.lt (.inr (.inr (.inl e))); omega
      · exact x3 e
      · have := h.lt (.inr (.inr (.inr (.inr e)))); omega
end
theorem intsV_set (l : List Int) (i : Nat) (x : Int) : intsV (l.set i x) = (intsV l).set i (.int .i64 x) := by simp [intsV, List.map_set]
/-- One number of the row is another one. -/
theorem ImC.setE {w : World} {L : Nat → Prop} {q b : Nat} {vt vp : Value} {g n cap : Nat} {ps : List (Value × Pt)} {I : Im} (h : ImC w L q b vt vp (.slice (some ⟨g, 0, none⟩) n cap) ps I) (i : Nat) (hi : i < I.eps.length) (x : Int) (hx : 0 ≤ x ∧ x ≤ 1000000000) :
    ImC (w.setCell ⟨g, i, none⟩ (.int .i64 x)) L q b vt vp (.slice (some ⟨g, 0, none⟩) n cap) ps { I with eps := I.eps.set i x } := by
  have hgq : q ≠ g := fun e => h.ne_q.2.2 (by rw [e]; rfl)
  refine h.swapE (by simp) (fun k hk hkq hkg => Below.heap_setCell _ _ _ _ (fun e => hkg (by rw [e]; rfl))) ((Below.heap_setCell _ _ _ _ hgq).trans h.cells) ?_ (fun k hk => .inl hk) ⟨h.ok.keys, h.ok.brs, h.ok.parts, h.ok.few, h.ok.tops, h.ok.name, h.ok.nums, by simpa using h.ok.eps, fun y hy => ?_, h.ok.app⟩
  · obtain ⟨h1, ⟨e, h0⟩ | ⟨g', cap', cur, e, hB, hg, hn, hc, hs, ht⟩⟩ := h.eps
    · cases e
    · cases e
      refine ⟨by simp [intsV], .inr ⟨g, cap, cur.setIfInBounds i (.int .i64 x), by simp, hB, set_box hg, by simpa using hn, hc, by simpa using hs, ?_⟩⟩
      rw [intsV_set, ← ht, List.length_set]
      simp only [Nat.mul_one, Array.toList_setIfInBounds]
      rw [List.take_set]
  · rcases List.mem_or_eq_of_mem_set hy with h1 | rfl
    · exact h.ok.epv y h1
    · exact hx
theorem ImC.ep {w : World} {L : Nat → Prop} {q b : Nat} {vt vp : Value} {g n cap : Nat} {ps : List (Value × Pt)} {I : Im} (h : ImC w L q b vt vp (.slice (some ⟨g, 0, none⟩) n cap) ps I) (i : Nat) (hi : i < I.eps.length) : w.cell? ⟨g, i, none⟩ = some (.int .i64 I.eps[i]) ∧ w.frozen? ⟨g, i, none⟩ = false := by
  have hc := World.ownsRow.cells h.eps (g := g) rfl i (.int .i64 I.eps[i]) (by simp [intsV, hi])
  rw [add_at, Nat.zero_add] at hc
  obtain ⟨cur, hcur⟩ := row_blk h.eps (k := g) rfl
  exact ⟨hc, frz_blk hcur i⟩
end Go.Proofs.YtcffomhcmilcpaaGreat
