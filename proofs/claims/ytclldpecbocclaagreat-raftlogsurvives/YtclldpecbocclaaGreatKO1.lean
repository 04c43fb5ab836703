/- What RaftlogOrder asks, without memory; a log's row. -/
import Derived.Test.YtclldpecbocclaaGreatK26
import Derived.Test.YtclldpecbocclaaGreatK27
namespace Go.Proofs.YtclldpecbocclaaGreat
open Go.RowKit Go.Maps
set_option maxRecDepth 100000
set_option linter.unusedSimpArgs false
set_option linter.unusedVariables false

theorem LF.len {w0 w : World} {X q a size s} (h : LF w0 w X q a size s) : s.list.length * 8 ≤ size := by
  obtain ⟨B, ⟨U, S, v, h1, h2, h3, h4⟩, hk, _⟩ := h
  have h5 := h2.facts
  cases hl : s.hl with
  | false => rw [hk.hl hl]; simp
  | true =>
    have h6 := total_fs (lB s) (sB s) (tB s)
    have h7 : totalA s.fs = totalA (fsOf (lB s) (sB s) (tB s)) := rfl
    have h8 : lB s = some (logB s.list) := by unfold lB; rw [hl]; rfl
    rw [h8] at h6
    simp only [Option.getD_some] at h6
    have h9 := logB_length_ge s.list
    rw [← h8] at h6
    omega
theorem from_all {s : LSt} (h : s.list.length ≤ 1000000) : fromE s (s.snap.i + 1) 1000000 = s.list := by
  unfold fromE
  have e : atE s (s.snap.i + 1) = s.list[0]? := by
    have := atE_at s 0
    simpa using this
  rw [e]
  cases hl : s.list with
  | nil => simp
  | cons x r =>
    have h1 : (s.snap.i + 1 - (s.snap.i + 1)).toNat = 0 := by simp
    rw [h1]
    simp only [List.getElem?_cons_zero, Option.isSome_some, true_and, List.drop_zero]
    rw [if_pos (by omega)]
    exact List.take_of_length_le (by rw [hl] at h; exact h)
/-- The term ahead of the k-th entry. -/
def termAt (s : LSt) (k : Nat) : Int := if k = 0 then s.snap.t else ((s.list[k - 1]?).getD s.snap).t
theorem termAt_le {s : LSt} (h : LOk s) {k : Nat} {x : Et} (hx : s.list[k]? = some x) : termAt s k ≤ x.t := by
  unfold termAt
  have hkl := (List.getElem?_eq_some_iff.1 hx).1
  have hm : x ∈ s.list := List.mem_of_getElem? hx
  split
  · exact (List.pairwise_cons.1 h.rise).1 x hm
  · rename_i h0
    have hp := (List.pairwise_cons.1 h.rise).2
    have hz : s.list[k - 1]? = some s.list[k - 1] := List.getElem?_eq_getElem (by omega)
    rw [hz]
    simp only [Option.getD_some]
    have hxe : s.list[k] = x := (List.getElem?_eq_some_iff.1 hx).2
    rw [← hxe]
    exact List.pairwise_iff_getElem.1 hp (k - 1) k (by omega) hkl (by omega)
theorem termAt_next {s : LSt} {k : Nat} {x : Et} (hx : s.list[k]? = some x) : termAt s (k + 1) = x.t := by
  unfold termAt
  rw [if_neg (by omega), Nat.add_sub_cancel, hx]
  rfl
theorem termAt_last {s : LSt} : (lastE s).t = termAt s s.list.length := by
  rw [lastE_eq]
  unfold termAt
  cases hl : s.list with
  | nil => simp
  | cons x r =>
    rw [if_neg (by simp)]
    simp [List.getLast?_eq_getElem?]
set_option maxHeartbeats 1000000 in
theorem neq38 (x : Et) (w : World) : (binOp .neq 37 (.agg #[.int .i64 x.t, .int .i64 x.i, .string (strOf x.d)]) (.agg #[.int .i64 x.t, .int .i64 x.i, .string (strOf x.d)])).run Tryz.prog w = .ok (.bool false) w := by
  rw [run_neq_struct, run_equalIn_agg w 9999 37 _ _ (by kernel_rfl) (by kernel_rfl)]
  simp [go_sem]
theorem EL.setIndex {w : World} {g n cap : Nat} {l : List Et} (h : EL w (.slice (some ⟨g, 0, none⟩) n cap) l) (k : Nat) (hk : k < l.length) (i : Int) :
    EL (w.setCell ⟨g, k * 3 + 1, none⟩ (.int .i64 i)) (.slice (some ⟨g, 0, none⟩) n cap) (l.set k ⟨l[k].t, i, l[k].d⟩) ∧ w.frozen? ⟨g, k * 3 + 1, none⟩ = false := by
  obtain ⟨cur, hg, hs, hl, hc, hu⟩ := h.blk
  refine ⟨?_, frozen_blk hg _⟩
  have hn : n = l.length := by
    obtain ⟨oa, cap', e, _⟩ := h.shape
    cases e; rfl
  have h2 := EL.of (l := l.set k ⟨l[k].t, i, l[k].d⟩) (cap := cap) (set_box (j := k * 3 + 1) (v := .int .i64 i) hg) (by simpa using hs) (by simpa using hl) hc ?_
  · rw [List.length_set] at h2
    rw [hn]
    exact h2
  intro j u hj
  have hjl : j < l.length * 3 := by
    have := (List.getElem?_eq_some_iff.1 hj).1
    rw [flatT_length, List.length_set] at this
    exact this
  have hget : (l.set k ⟨l[k].t, i, l[k].d⟩)[j / 3]? = some (if k = j / 3 then ⟨l[k].t, i, l[k].d⟩ else l[j / 3]'(by omega)) := by
    rw [List.getElem?_set]
    by_cases hkj : k = j / 3
    · rw [if_pos hkj, if_pos hk, if_pos hkj]
    · rw [if_neg hkj, if_neg hkj, List.getElem?_eq_getElem (by omega)]
  have hold : l[j / 3]? = some (l[j / 3]'(by omega)) := List.getElem?_eq_getElem (by omega)
  obtain ⟨f0, f1, f2⟩ := flatT_at _ _ _ hget
  obtain ⟨o0, o1, o2⟩ := flatT_at _ _ _ hold
  have h3 : j % 3 = 0 ∨ j % 3 = 1 ∨ j % 3 = 2 := by omega
  rcases h3 with h3 | h3 | h3
  · have e : j = j / 3 * 3 := by omega
    rw [e, f0] at hj
    rw [Array.getElem?_setIfInBounds_ne (by omega), e]
    have := hu _ _ o0
    rw [this]
    by_cases hkj : k = j / 3
    · rw [if_pos hkj] at hj; subst hkj; exact hj
    · rw [if_neg hkj] at hj; exact hj
  · have e : j = j / 3 * 3 + 1 := by omega
    rw [e, f1] at hj
    by_cases hkj : k = j / 3
    · rw [if_pos hkj] at hj
      have ek : k * 3 + 1 = j := by omega
      rw [ek, Array.getElem?_setIfInBounds_self]
      rw [if_pos (by omega)]
      exact hj
    · rw [if_neg hkj] at hj
      rw [Array.getElem?_setIfInBounds_ne (by omega), e]
      have := hu _ _ o1
      rw [this]
      exact hj
  · have e : j = j / 3 * 3 + 2 := by omega
    rw [e, f2] at hj
    rw [Array.getElem?_setIfInBounds_ne (by omega), e]
    have := hu _ _ o2
    rw [this]
    by_cases hkj : k = j / 3
    · rw [if_pos hkj] at hj; subst hkj; exact hj
    · rw [if_neg hkj] at hj; exact hj
theorem LF.other {w0 w : World} {X q a size s} (h : LF w0 w X q a size s) (g j : Nat) (u : Value) (hg : X g) (hg0 : w0.heap.size ≤ g) : LF w0 (w.setCell ⟨g, j, none⟩ u) X q a size s := by
  obtain ⟨B, h1, h2, h3, h4, h5⟩ := h
  refine ⟨B, h1.beside (keeps_set w g j u) (fun k hB e => (h3 k hB).2 (by rw [e]; exact hg)), h2, h3, h4.setCell (p := ⟨g, j, none⟩) hg0 _, fun k hk => by rw [set_size]; exact h5 k hk⟩
/-- A call of the script in its own block, ready. -/
structure OpIn (w W : World) (b q a : Nat) (s : LSt) (kind N M : Int) (text : List UInt8) (oa : Option Addr) (l : List Et) (cap : Nat) (fits : Bool) (kv : Value) : Prop where
  log : ∃ X, LF w W X q a 1000000 s ∧ (0 < l.length → ∀ ad, oa = some ad → X ad.block ∨ ad.block < w.heap.size)
  box : W.heap[b]? = some (.cells #[.int .i64 kind, .int .i64 N, .int .i64 M, .string (strOf text), .slice oa l.length cap, .bool fits, kv] 34)
  ents : EAt W oa l
  len : l.length ≤ 20
  c : l.length ≤ cap
  cm : cap ≤ maxLen
  k : I64 kind
  t : text.length ≤ 1000
end Go.Proofs.YtclldpecbocclaaGreat

