/- A crash, and Open anew. -/
import Derived.Test.YtjggdecjnnpjaaaH16
namespace Go.Proofs.Ytjggdecjnnpjaaa
open Go.RowKit Go.Maps Go.Sort
set_option maxRecDepth 100000
set_option linter.unusedSimpArgs false
set_option linter.unusedVariables false

/-- What a crash leaves of the disk. -/
structure Crashed (w0 w : World) (X : Nat → Prop) (a : Nat) (l : List (Int × Int)) (size : Nat) : Prop where
  disk : ∃ S fs, DiskA w S a size fs ∧ StF fname fs l ∧ (∀ k, S k → w0.heap.size ≤ k ∧ ¬ X k)
  ok : EOk l
  below : Below w0.heap.size w0 w
  few : ∀ k, X k → k < w.heap.size
theorem CF.crash {w0 w : World} {X q a l size} (h : CF w0 w X q a fname l size) {W : World} (hb : Below w.heap.size w W) (oa : Option Addr) (ks : List Int) (cap : Nat) (hk : dIntsAt W oa ks) (hl : ks.length ≤ maxLen) (hks : ks ≠ [] → ∀ b off, oa = some ⟨b, off, none⟩ → w.heap.size ≤ b) :
    Calls Try.prog 22 #[.pointer (some ⟨a, 0, none⟩), .slice oa ks.length cap] W fun e w' => e = .returned (.tuple #[]) ∧ Crashed w0 w' X a l size ∧ (∀ k, X k → w'.heap[k]? = w.heap[k]?) ∧ w.heap.size ≤ w'.heap.size := by
  obtain ⟨B, ⟨fs, ⟨U, S, v, h1, h2, h3, h4⟩, g2, g3⟩, g4, g5, g6⟩ := h
  have hs := hb.size
  refine (crashA (h2.under hb) oa ks cap hk hl (fun hne b off e hS => by have := hks hne b off e; have := h2.below b hS; omega)).mono fun e w' ⟨e1, e2⟩ => ?_
  rw [g2.crash] at e2
  obtain ⟨S', d1, d2, d3, d4⟩ := e2
  have hs4 := d4.size
  have hS : ∀ k, S k → w0.heap.size ≤ k ∧ ¬ X k := fun k hk => g4 k ((h4 k).2 (.inr hk))
  have hS' : ∀ k, S' k → w0.heap.size ≤ k ∧ ¬ X k := fun k hk => by
    rcases d2 k hk with h | h
    · exact hS k h
    · exact ⟨by have := g5.size; omega, fun hx => by have := g6 k hx; omega⟩
  refine ⟨e1, ⟨⟨S', fs, d1, g2, hS'⟩, g3, ?_, fun k hk => by have := g6 k hk; omega⟩, fun k hk => ?_, by omega⟩
  · exact (g5.trans (hb.mono g5.size)).trans (d4.below (by have := g5.size; omega) (fun k hk => (hS k hk).1))
  · rw [d4.block k (by have := g6 k hk; omega) (fun hS0 => (hS k hS0).2 hk)]
    exact hb.block k (g6 k hk)
theorem Crashed.open {w0 w : World} {X a l size} (h : Crashed w0 w X a l size) :
    Calls Try.prog 11 #[.pointer (some ⟨a, 0, none⟩), .string fname] w fun e w' => ∃ q, e = .returned (.tuple #[.pointer (some ⟨q, 0, none⟩), .int .i64 0]) ∧ CF w0 w' X q a fname l size ∧ Below w.heap.size w w' := by
  obtain ⟨S, fs, d1, d2, d3⟩ := h.disk
  have ho := d2.open h.ok
  have := copen_yes d1 fname_size (by rw [ho])
  rw [ho] at this
  refine this.mono fun e w' ⟨e1, ⟨B, b1, b2, b3⟩, e3⟩ => ⟨_, e1, ⟨B, ⟨fs, b1, d2, h.ok⟩, fun k hk => ?_, h.below.trans (e3.mono h.below.size), fun k hk => by have := h.few k hk; have := e3.size; omega⟩, e3⟩
  rcases b2 k hk with h' | h'
  · exact d3 k h'
  · exact ⟨by have := h.below.size; omega, fun hx => by have := h.few k hx; omega⟩
theorem ints123 (w : World) : dIntsAt (w.alloc (.cells #[.int .i64 1, .int .i64 2, .int .i64 3] 3)) (some ⟨w.heap.size, 0, none⟩) [1, 2, 3] := by
  refine .inr ⟨w.heap.size, 0, rfl, fun i hi => ?_⟩
  have hh := heap_alloc_new w (.cells #[.int .i64 1, .int .i64 2, .int .i64 3] 3)
  have hi' : i = 0 ∨ i = 1 ∨ i = 2 := by simp at hi; omega
  rcases hi' with rfl | rfl | rfl
  · exact ⟨cell_at hh rfl, by simp, by simp⟩
  · exact ⟨cell_at hh rfl, by simp, by simp⟩
  · exact ⟨cell_at hh rfl, by simp, by simp⟩
theorem CF.crash123 {w0 w : World} {X q a l size} (h : CF w0 w X q a fname l size) :
    Calls Try.prog 22 #[.pointer (some ⟨a, 0, none⟩), .slice (some ⟨w.heap.size, 0, none⟩) 3 3] (w.alloc (.cells #[.int .i64 1, .int .i64 2, .int .i64 3] 3)) fun e w' => e = .returned (.tuple #[]) ∧ Crashed w0 w' X a l size ∧ (∀ k, X k → w'.heap[k]? = w.heap[k]?) ∧ w.heap.size ≤ w'.heap.size :=
  h.crash ((Below.refl _ _).alloc (Nat.le_refl _) _) (some ⟨w.heap.size, 0, none⟩) [1, 2, 3] 3 (ints123 w) (by unfold maxLen; decide) (fun _ b off e => by cases e; exact Nat.le_refl _)
theorem CF.again {w0 w : World} {X q a l size} (h : CF w0 w X q a fname l size) {v : Value} (hv : AL w v l) : Calls Try.prog 14 #[.pointer (some ⟨q, 0, none⟩)] w fun e w' => ∃ rv, e = .returned rv ∧ Below w0.heap.size w0 w' ∧ Calls Try.prog 13 #[rv, v] w' fun e w'' => e = .returned (.bool true) ∧ Below w0.heap.size w0 w'' := by
  refine h.all.mono fun e w' ⟨rv, e1, e2, e3⟩ => ⟨rv, e1, (h.under e3).below, ?_⟩
  have hl := h.ok.few
  refine (same_any (AL.of e2) (hv.under e3) (by omega) (by omega)).mono fun e w'' ⟨e4, e5⟩ => ⟨by rw [e4, decide_eq_true rfl], ((h.under e3).under e5).below⟩
end Go.Proofs.Ytjggdecjnnpjaaa

