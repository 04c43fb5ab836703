/- What stands in memory while TimerOrder asks. -/
import Derived.Test.YtohbnkghenlnoaaOrd
import Derived.Test.YtohbnkghenlnoaaPlays
namespace Go.Proofs.Ytohbnkghenlnoaa
open Go.RowKit Go.Maps
set_option maxRecDepth 100000
set_option linter.unusedSimpArgs false
set_option linter.unusedVariables false

/-- d are gone, e were told: the block L holds the last of these; but for the timers' blocks and L all is as in W2. -/
structure OM (W2 : World) (S : Nat → Prop) (L a : Nat) (s : List Tm) (d e : Nat) (wr : World) : Prop where
  ta : TA wr S a (s.drop d)
  keep : Keeps (fun k => S k ∨ k = L) W2 wr
  block : wr.heap[L]? = some (.cells #[.int .i64 (lastT s e).key, .int .i64 (lastT s e).tick] 44)

theorem OM.c0 {W2 wr : World} {S : Nat → Prop} {L a d e : Nat} {s : List Tm} (h : OM W2 S L a s d e wr) : wr.cell? ⟨L, 0, none⟩ = some (.int .i64 (lastT s e).key) := by simp [World.cell?, h.block]
theorem OM.c1 {W2 wr : World} {S : Nat → Prop} {L a d e : Nat} {s : List Tm} (h : OM W2 S L a s d e wr) : wr.cell? ⟨L, 1, none⟩ = some (.int .i64 (lastT s e).tick) := by simp [World.cell?, h.block]
theorem OM.f {W2 wr : World} {S : Nat → Prop} {L a d e : Nat} {s : List Tm} (h : OM W2 S L a s d e wr) (o : Nat) : wr.frozen? ⟨L, o, none⟩ = false := by simp [World.frozen?, h.block]
theorem OM.drewN {W2 wr : World} {S : Nat → Prop} {L a d e : Nat} {s : List Tm} (h : OM W2 S L a s d e wr) (n : Nat) : OM W2 S L a s d e (wr.drewN n) :=
  ⟨h.ta.under (below_drewN (Below.refl _ _) n), h.keep.trans (.of_below (below_drewN (Below.refl _ _) n)), h.block⟩
theorem OM.cell {W2 wr : World} {S : Nat → Prop} {L a d e : Nat} {s : List Tm} (h : OM W2 S L a s d e wr) {b o : Nat} {u : Value} (hb : b < W2.heap.size) (hS : ¬ S b) (hL : b ≠ L) (hc : W2.cell? ⟨b, o, none⟩ = some u) : wr.cell? ⟨b, o, none⟩ = some u :=
  (World.cell?_of_block (a := ⟨b, o, none⟩) (h.keep.block b hb (fun h => h.elim hS hL))).trans hc

/-- The row that Due gave. -/
def DueRow (S : Nat → Prop) (L : Nat) (oa : Option Addr) (n : Nat) (ks : Nat → Int) (w : World) : Prop :=
  0 < n → ∃ b, oa = some ⟨b, 0, none⟩ ∧ ¬ S b ∧ b ≠ L ∧ b < w.heap.size ∧ ∀ k, k < n → w.cell? ⟨b, k, none⟩ = some (.int .i64 (ks k))

theorem OM.due {W2 wr : World} {S : Nat → Prop} {L a d : Nat} {s : List Tm} (h : OM W2 S L a s d d wr) (hL : ¬ S L) (now : Int) :
    Calls Try.prog 14 #[.pointer (some ⟨a, 0, none⟩), .int .i64 now] wr fun e w' => ∃ oa cap, e = .returned (.slice oa (dueL (s.drop d) now).length cap) ∧ OM W2 S L a s (d + (dueL (s.drop d) now).length) d w' ∧ DueRow S L oa (dueL (s.drop d) now).length (fun k => (g s (d + k)).key) w' := by
  refine (due_any h.ta now).mono ?_
  rintro e w' ⟨v, rfl, hr, ht, hk⟩
  have hrow := hr
  obtain ⟨oa, cap, rfl⟩ := row_shape hr
  have hLl : L < wr.heap.size := (Array.getElem?_eq_some_iff.1 h.block).1
  rw [rest_drop] at ht
  refine ⟨oa, cap, rfl, ⟨ht, ⟨hk.os.trans h.keep.os, hk.tape.trans h.keep.tape, hk.output.trans h.keep.output, Nat.le_trans h.keep.size hk.size, fun k hk1 hS => (hk.block k (Nat.lt_of_lt_of_le hk1 h.keep.size) (fun hs => hS (.inl hs))).trans (h.keep.block k hk1 hS)⟩, (hk.block L hLl hL).trans h.block⟩, fun h0 => ?_⟩
  rcases hrow.2 with ⟨_, h1⟩ | ⟨b, cap', cur, e0, hb0, hg0, _⟩
  · omega
  · have ho : oa = some ⟨b, 0, none⟩ := by simp only [Value.slice.injEq] at e0; exact e0.1
    subst ho
    refine ⟨b, rfl, fun hs => by have := h.ta.below b hs; omega, by omega, (Array.getElem?_eq_some_iff.1 hg0).1, fun k hk => ?_⟩
    rw [hrow.cellAt k (by omega)]
    have e := (due_at hk).2.1
    unfold keyCells
    rw [List.getElem?_map, g_some hk, e]
    rfl

/-- One more is told. -/
theorem OM.told {W2 wr : World} {S : Nat → Prop} {L a d e : Nat} {s : List Tm} (h : OM W2 S L a s d e wr) (hL : ¬ S L) (hl : lastT s (e + 1) = g s e) :
    OM W2 S L a s d (e + 1) ((wr.setCell ⟨L, 0, none⟩ (.int .i64 (g s e).key)).setCell ⟨L, 1, none⟩ (.int .i64 (g s e).tick)) := by
  have hb : ∀ k, k ≠ L → ((wr.setCell ⟨L, 0, none⟩ (.int .i64 (g s e).key)).setCell ⟨L, 1, none⟩ (.int .i64 (g s e).tick)).heap[k]? = wr.heap[k]? := fun k hk => by
    rw [Below.heap_setCell _ _ _ k hk, Below.heap_setCell _ _ _ k hk]
  have hsz : ((wr.setCell ⟨L, 0, none⟩ (.int .i64 (g s e).key)).setCell ⟨L, 1, none⟩ (.int .i64 (g s e).tick)).heap.size = wr.heap.size := by simp [World.setCell]
  refine ⟨h.ta.kept (fun k hk => hb k (fun e => hL (e ▸ hk))) (by rw [hsz]; exact Nat.le_refl _), ⟨h.keep.os, h.keep.tape, h.keep.output, by rw [hsz]; exact h.keep.size, fun k hk hS => (hb k (fun e => hS (.inr e))).trans (h.keep.block k hk hS)⟩, ?_⟩
  rw [hl]
  simp [World.setCell, Array.getElem?_modify, h.block]

theorem DueRow.told {S : Nat → Prop} {L : Nat} {oa : Option Addr} {n : Nat} {ks : Nat → Int} {w : World} (h : DueRow S L oa n ks w) (u1 u2 : Value) : DueRow S L oa n ks ((w.setCell ⟨L, 0, none⟩ u1).setCell ⟨L, 1, none⟩ u2) := fun h0 => by
  obtain ⟨b, e, h1, h2, h3, h4⟩ := h h0
  refine ⟨b, e, h1, h2, by simpa [World.setCell] using h3, fun k hk => ?_⟩
  have hb : ((w.setCell ⟨L, 0, none⟩ u1).setCell ⟨L, 1, none⟩ u2).heap[b]? = w.heap[b]? := by rw [Below.heap_setCell _ _ _ b h2, Below.heap_setCell _ _ _ b h2]
  exact (World.cell?_of_block (a := ⟨b, k, none⟩) hb).trans (h4 k hk)

theorem OM.isGone {W2 wr : World} {S : Nat → Prop} {L a d e : Nat} {s : List Tm} (h : OM W2 S L a s d e wr) (hk : Keys s) {i : Nat} (hi : i < s.length) (hd : i < d) (hI : I64 (g s i).key) :
    Calls Try.prog 16 #[.pointer (some ⟨a, 0, none⟩), .int .i64 (g s i).key] wr fun e w' => e = .returned (.int .i64 (-1)) ∧ w' = wr := by
  have := at_any h.ta (g s i).key hI
  rwa [gone hk hi hd] at this

end Go.Proofs.Ytohbnkghenlnoaa
