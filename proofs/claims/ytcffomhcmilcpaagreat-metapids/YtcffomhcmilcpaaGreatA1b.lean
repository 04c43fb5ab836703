/- Some cells of a block are stored, one behind the other. -/
import Derived.Test.YtcffomhcmilcpaaGreatA1
namespace Go.Proofs.YtcffomhcmilcpaaGreat
open Go.RowKit Go.Maps
set_option maxRecDepth 100000
set_option linter.unusedSimpArgs false
set_option linter.unusedVariables false

def puts (W : World) (q : Nat) : Nat → List Value → World
  | _, [] => W
  | o, v :: r => puts (W.setCell ⟨q, o, none⟩ v) q (o + 1) r
structure PutsR (W N : World) (q o : Nat) (vs : List Value) : Prop where
  os : N.os = W.os
  tape : N.tape = W.tape
  output : N.output = W.output
  size : N.heap.size = W.heap.size
  other : ∀ b, b ≠ q → N.heap[b]? = W.heap[b]?
  blk : ∀ cs T, W.heap[q]? = some (.cells cs T) → ∃ cs' : Array Value, N.heap[q]? = some (.cells cs' T) ∧ cs'.size = cs.size ∧ ∀ j, cs'[j]? = if j < cs.size ∧ o ≤ j ∧ j < o + vs.length then vs[j - o]? else cs[j]?
theorem puts_all : ∀ (vs : List Value) (W : World) (q o : Nat), PutsR W (puts W q o vs) q o vs
  | [], W, q, o => ⟨rfl, rfl, rfl, rfl, fun _ _ => rfl, fun cs T h => ⟨cs, h, rfl, fun j => by rw [if_neg (by intro h; simp at h; omega)]⟩⟩
  | v :: r, W, q, o => by
    have ih := puts_all r (W.setCell ⟨q, o, none⟩ v) q (o + 1)
    refine ⟨ih.os, ih.tape, ih.output, ih.size.trans (by simp), fun b hb => (ih.other b hb).trans (Below.heap_setCell _ _ _ _ hb), fun cs T h => ?_⟩
    obtain ⟨cs', h1, h2, h3⟩ := ih.blk _ _ (set_box (j := o) (v := v) h)
    refine ⟨cs', h1, by rw [h2]; simp, fun j => ?_⟩
    rw [h3 j]
    simp only [Array.size_setIfInBounds, List.length_cons, Array.getElem?_setIfInBounds]
    by_cases e : o = j
    · subst e
      rw [if_neg (by omega)]
      simp only [if_true, Nat.sub_self, List.getElem?_cons_zero]
      by_cases hs : o < cs.size
      · rw [if_pos hs, if_pos ⟨hs, by omega, by omega⟩]
      · rw [if_neg hs, if_neg (by omega), Array.getElem?_eq_none (by omega)]
    · by_cases hc : j < cs.size ∧ o + 1 ≤ j ∧ j < o + 1 + r.length
      · rw [if_pos hc, if_pos (by omega)]
        rw [show j - o = (j - (o + 1)) + 1 by omega, List.getElem?_cons_succ]
      · rw [if_neg hc, if_neg e, if_neg (by omega)]
theorem PutsR.below {W N : World} {q o : Nat} {vs : List Value} (h : PutsR W N q o vs) {B : Nat} {w : World} (hb : Below B w W) (hq : B ≤ q) : Below B w N :=
  hb.trans ⟨h.os, h.tape, h.output, by rw [h.size]; exact Nat.le_refl _, fun k hk => h.other k (by omega)⟩
theorem PutsR.keeps {W N : World} {q o : Nat} {vs : List Value} (h : PutsR W N q o vs) {S : Nat → Prop} (hq : S q) : Keeps S W N :=
  ⟨h.os, h.tape, h.output, by rw [h.size]; exact Nat.le_refl _, fun k hk hS => h.other k (fun e => hS (by subst e; exact hq))⟩
/-- A whole box. -/
theorem PutsR.box9 {W N : World} {q : Nat} {v0 v1 v2 v3 v4 v5 v6 v7 v8 : Value} (h : PutsR W N q 0 [v0, v1, v2, v3, v4, v5, v6, v7, v8]) {cs : Array Value} {T : TypeId} (hc : W.heap[q]? = some (.cells cs T)) (hs : cs.size = 9) : N.heap[q]? = some (.cells #[v0, v1, v2, v3, v4, v5, v6, v7, v8] T) := by
  obtain ⟨cs', h1, h2, h3⟩ := h.blk _ _ hc
  have : cs' = #[v0, v1, v2, v3, v4, v5, v6, v7, v8] := by
    apply Array.ext_getElem?
    intro j
    rw [h3 j]
    by_cases hj : j < 9
    · rw [if_pos (by simp; omega)]
      simp
    · rw [if_neg (by simp; omega), Array.getElem?_eq_none (by omega), Array.getElem?_eq_none (by simp; omega)]
  rw [h1, this]
theorem flatP_set (ps : List (Value × Pt)) (hps : ∀ x ∈ ps, (pc x.1).length = 9) (i : Nat) (hi : i < ps.length) (x : Value × Pt) (hx : (pc x.1).length = 9) (j : Nat) :
    (flatP (ps.set i x))[j]? = if i * 9 ≤ j ∧ j < i * 9 + 9 then (pc x.1)[j - i * 9]? else (flatP ps)[j]? := by
  have e : j = (j / 9) * 9 + j % 9 := by omega
  have hm : j % 9 < 9 := Nat.mod_lt _ (by omega)
  have hps' : ∀ y ∈ ps.set i x, (pc y.1).length = 9 := fun y hy => by
    rcases List.mem_or_eq_of_mem_set hy with h | rfl
    · exact hps y h
    · exact hx
  have h1 := flatP_get (ps.set i x) (j / 9) (j % 9) hps' hm
  have h2 := flatP_get ps (j / 9) (j % 9) hps hm
  rw [← e] at h1 h2
  rw [h1, h2, List.getElem?_set]
  by_cases hd : i = j / 9
  · rw [if_pos hd, if_pos (by omega), if_pos (by omega)]
    simp only [Option.bind_some]
    congr 1
    omega
  · rw [if_neg hd, if_neg (by omega)]
/-- A state is stored into its place in the row. -/
theorem row_set {W N : World} {g cap n : Nat} {ps : List (Value × Pt)} (h : W.ownsRow 0 54 9 (.slice (some ⟨g, 0, none⟩) n cap) ps.length (flatP ps)) (hps : ∀ x ∈ ps, (pc x.1).length = 9) (i : Nat) (hi : i < ps.length) {x : Value × Pt} (hx : (pc x.1).length = 9) (hN : PutsR W N g (i * 9) (pc x.1)) :
    N.ownsRow 0 54 9 (.slice (some ⟨g, 0, none⟩) n cap) (ps.set i x).length (flatP (ps.set i x)) := by
  obtain ⟨h1, ⟨e, h0⟩ | ⟨g', cap', cur, e, hB, hg, hn, hc, hs, ht⟩⟩ := h
  · cases e
  · cases e
    obtain ⟨cs', a1, a2, a3⟩ := hN.blk _ _ hg
    have hps' : ∀ y ∈ ps.set i x, (pc y.1).length = 9 := fun y hy => by
      rcases List.mem_or_eq_of_mem_set hy with h | rfl
      · exact hps y h
      · exact hx
    refine ⟨by rw [flatP_length _ hps'], .inr ⟨g, cap, cs', by simp, hB, a1, by simpa using hn, hc, by rw [a2]; exact hs, ?_⟩⟩
    rw [List.length_set]
    apply List.ext_getElem?
    intro j
    rw [flatP_set ps hps i hi x hx j, List.getElem?_take]
    have hL := flatP_length ps hps
    by_cases hj : j < ps.length * 9
    · rw [if_pos hj]
      have h5 : (flatP ps)[j]? = cur[j]? := by
        rw [← ht, List.getElem?_take, if_pos hj]
        simp
      rw [h5]
      have h6 := a3 j
      rw [hx] at h6
      rw [Array.getElem?_toList, h6]
      by_cases hq : i * 9 ≤ j ∧ j < i * 9 + 9
      · rw [if_pos hq, if_pos ⟨by rw [hs]; have := Nat.mul_le_mul_right 9 hn; omega, hq.1, hq.2⟩]
      · rw [if_neg hq, if_neg (fun hh => hq hh.2)]
    · rw [if_neg hj, if_neg (by omega), List.getElem?_eq_none (by omega)]
theorem ImC.part9 {w : World} {L : Nat → Prop} {q b : Nat} {vt vp ve : Value} {ps : List (Value × Pt)} {I : Im} (h : ImC w L q b vt vp ve ps I) : ∀ x ∈ ps, (pc x.1).length = 9 := fun x hx => pc_part (h.each x hx).1
/-- The nine cells of a state in the row. -/
theorem ImC.at_ {w : World} {L : Nat → Prop} {q b : Nat} {vt ve : Value} {g n cap : Nat} {ps : List (Value × Pt)} {I : Im} (h : ImC w L q b vt (.slice (some ⟨g, 0, none⟩) n cap) ve ps I) (i : Nat) (x : Value × Pt) (hx : ps[i]? = some x) (t : Nat) (ht : t < 9) (u : Value) (hu : (pc x.1)[t]? = some u) : w.cell? ⟨g, i * 9 + t, none⟩ = some u := by
  have hc := World.ownsRow.cells h.parts (g := g) rfl (i * 9 + t) u (by rw [flatP_get ps i t h.part9 ht, hx]; exact hu)
  have add0 : (⟨g, 0, none⟩ : Addr).add (i * 9 + t) = ⟨g, i * 9 + t, none⟩ := by unfold Addr.add; split <;> simp_all
  rw [add0] at hc
  exact hc
end Go.Proofs.YtcffomhcmilcpaaGreat
