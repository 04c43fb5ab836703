/- More on a log beside rows of others. -/
import Derived.Test.YtbgmehanhilicaaKO1
namespace Go.Proofs.Ytbgmehanhilicaa
open Go.RowKit Go.Maps
set_option maxRecDepth 100000
set_option linter.unusedSimpArgs false
set_option linter.unusedVariables false

theorem addr_add (g o j : Nat) : (⟨g, o, none⟩ : Addr).add j = ⟨g, o + j, none⟩ := by unfold Addr.add; split <;> simp_all
theorem LF.grownTo {w0 w w' : World} {X q a size s} (h : LF w0 w X q a size s) {g : Nat} (hg : w.grownBy w' (some g)) (hgX : X g) (hg0 : w0.heap.size ≤ g) (Y : Nat → Prop) (hY : ∀ k, Y k → X k ∨ (w.heap.size ≤ k ∧ k < w'.heap.size)) : LF w0 w' Y q a size s := by
  obtain ⟨B, h1, h2, h3, h4, h5⟩ := h
  have hs := hg.size
  have hk : Keeps (fun k => k = g) w w' := ⟨hg.os, hg.tape, hg.output, hg.size, fun k hk hn => hg.block k hk (by simpa using hn)⟩
  refine ⟨B, h1.beside hk (fun k hB e => (h3 k hB).2 (by rw [e]; exact hgX)), h2, fun k hB => ⟨(h3 k hB).1, fun hy => ?_⟩, h4.grown hg h4.size (fun k hk => by cases hk; exact hg0), fun k hk => ?_⟩
  · rcases hY k hy with h | h
    · exact (h3 k hB).2 h
    · have := h1.below k hB; omega
  · rcases hY k hk with h | h
    · have := h5 k h; omega
    · exact h.2
theorem set3_cell {W : World} {b g o : Nat} (hne : g ≠ b) (u0 u1 u2 : Value) : (((W.setCell ⟨b, 0, none⟩ u0).setCell ⟨b, 1, none⟩ u1).setCell ⟨b, 2, none⟩ u2).cell? ⟨g, o, none⟩ = W.cell? ⟨g, o, none⟩ :=
  World.cell?_of_block (a := ⟨g, o, none⟩) (by rw [Below.heap_setCell _ ⟨b, 2, none⟩ _ g hne, Below.heap_setCell _ ⟨b, 1, none⟩ _ g hne, Below.heap_setCell _ ⟨b, 0, none⟩ _ g hne])
theorem set3_box {W : World} {b : Nat} {v0 v1 v2 : Value} (h : W.heap[b]? = some (.cells #[v0, v1, v2] 38)) (u0 u1 u2 : Value) : (((W.setCell ⟨b, 0, none⟩ u0).setCell ⟨b, 1, none⟩ u1).setCell ⟨b, 2, none⟩ u2).heap[b]? = some (.cells #[u0, u1, u2] 38) := by
  rw [set_box (set_box (set_box h))]
  rfl
theorem set3_below8 {w8 W : World} {b : Nat} (hb : Below w8.heap.size w8 W) (h : w8.heap.size ≤ b) (u0 u1 u2 : Value) : Below w8.heap.size w8 (((W.setCell ⟨b, 0, none⟩ u0).setCell ⟨b, 1, none⟩ u1).setCell ⟨b, 2, none⟩ u2) :=
  ((hb.setCell (p := ⟨b, 0, none⟩) h _).setCell (p := ⟨b, 1, none⟩) h _).setCell (p := ⟨b, 2, none⟩) h _
theorem box7 {W : World} {b : Nat} {u0 u1 u2 u3 u4 u5 u6 : Value} {T : TypeId} (h : W.heap[b]? = some (.cells #[u0, u1, u2, u3, u4, u5, u6] T)) : (W.cell? ⟨b, 0, none⟩ = some u0 ∧ W.cell? ⟨b, 1, none⟩ = some u1 ∧ W.cell? ⟨b, 2, none⟩ = some u2 ∧ W.cell? ⟨b, 3, none⟩ = some u3 ∧ W.cell? ⟨b, 4, none⟩ = some u4 ∧ W.cell? ⟨b, 5, none⟩ = some u5) ∧ W.frozen? ⟨b, 1, none⟩ = false ∧ W.frozen? ⟨b, 4, none⟩ = false :=
  ⟨⟨cell_at h rfl, cell_at h rfl, cell_at h rfl, cell_at h rfl, cell_at h rfl, cell_at h rfl⟩, frozen_blk h 1, frozen_blk h 4⟩
/-- A call's entries in a row of its own. -/
structure Own (w W : World) (b q a : Nat) (s : LSt) (kind N M : Int) (text : List UInt8) (g : Nat) (l : List Et) (cap : Nat) (fits : Bool) (kv : Value) : Prop where
  log : LF w W (fun z => z = b ∨ z = g) q a 1000000 s
  box : W.heap[b]? = some (.cells #[.int .i64 kind, .int .i64 N, .int .i64 M, .string (strOf text), .slice (some ⟨g, 0, none⟩) l.length cap, .bool fits, kv] 34)
  ents : EL W (.slice (some ⟨g, 0, none⟩) l.length cap) l
  ne : g ≠ b
  g0 : w.heap.size ≤ g
theorem Own.set {w W : World} {b q a s kind N M text g l cap fits kv} (h : Own w W b q a s kind N M text g l cap fits kv) (k : Nat) (hk : k < l.length) (i : Int) : Own w (W.setCell ⟨g, k * 3 + 1, none⟩ (.int .i64 i)) b q a s kind N M text g (l.set k ⟨l[k].t, i, l[k].d⟩) cap fits kv ∧ W.frozen? ⟨g, k * 3 + 1, none⟩ = false := by
  obtain ⟨h1, h2⟩ := h.ents.setIndex k hk i
  refine ⟨⟨h.log.other g _ _ (.inr rfl) h.g0, ?_, ?_, h.ne, h.g0⟩, h2⟩
  · rw [Below.heap_setCell W ⟨g, k * 3 + 1, none⟩ _ b (fun e => h.ne e.symm), List.length_set]
    exact h.box
  · rw [List.length_set]; exact h1
/-- The copy of a call's entries. -/
theorem own_made {w W1 w5 w6 w7 : World} {b q a s kind N N' M text la l lc fits kv} (h : LF w W1 (fun z => z = b) q a 1000000 s) (hwb : w.heap.size ≤ b) (hbox : W1.heap[b]? = some (.cells #[.int .i64 kind, .int .i64 N, .int .i64 M, .string (strOf text), .slice la l.length lc, .bool fits, kv] 34)) (hb5 : Below W1.heap.size W1 w5)
    (h6 : w6 = (w5.setCell ⟨b, 1, none⟩ (.int .i64 N')).alloc (.cells #[] 38)) {v' : Value} (hown : w7.ownsRow w5.heap.size 38 3 v' l.length (flatT l)) (hg : w6.grownBy w7 (some w5.heap.size)) (hn : v' ≠ .slice none 0 0) :
    ∃ g cap, v' = .slice (some ⟨g, 0, none⟩) l.length cap ∧ l.length ≤ cap ∧ cap ≤ maxLen ∧ w7.cell? ⟨b, 4, none⟩ = some (.slice la l.length lc) ∧ w7.frozen? ⟨b, 4, none⟩ = false ∧ Own w (w7.setCell ⟨b, 4, none⟩ v') b q a s kind N' M text g l cap fits kv := by
  have hbl := lt_blk hbox
  have hs5 := hb5.size
  have hbox5 := (hb5.block b hbl).trans hbox
  have hbox5' : (w5.setCell ⟨b, 1, none⟩ (.int .i64 N')).heap[b]? = some (.cells #[.int .i64 kind, .int .i64 N', .int .i64 M, .string (strOf text), .slice la l.length lc, .bool fits, kv] 34) := set_box hbox5
  have hsz : (w5.setCell ⟨b, 1, none⟩ (.int .i64 N')).heap.size = w5.heap.size := set_size _ _ _
  have hs6 : w6.heap.size = w5.heap.size + 1 := by rw [h6]; simp [set_size]
  have hbox6 : w6.heap[b]? = some (.cells #[.int .i64 kind, .int .i64 N', .int .i64 M, .string (strOf text), .slice la l.length lc, .bool fits, kv] 34) := by rw [h6]; exact blk_alloc hbox5' _
  have hbox7 := (hg.block b (by omega) (fun e => by cases e; omega)).trans hbox6
  have L5 := (h.under hb5).other b 1 (.int .i64 N') rfl hwb
  have hal : Below (w5.setCell ⟨b, 1, none⟩ (.int .i64 N')).heap.size (w5.setCell ⟨b, 1, none⟩ (.int .i64 N')) w6 := by rw [h6]; exact (Below.refl _ _).alloc (Nat.le_refl _) _
  have L6 := L5.with hal (fun z => z = b ∨ z = w5.heap.size) (fun z hz => by
    rcases hz with hz | hz
    · exact .inl hz
    · exact .inr ⟨by rw [hsz]; omega, by omega⟩)
  have hgs := hg.size
  obtain ⟨e1, ⟨ev, _⟩ | ⟨g, cap, cur, ev, hB, hgc, hn2, hc, hss, ht⟩⟩ := id hown
  · exact absurd ev hn
  · subst ev
    have hgb : g ≠ b := by omega
    have hgl := lt_blk hgc
    have L7 := L6.grownTo hg (.inr rfl) (by omega) (fun z => z = b ∨ z = g) (fun z hz => by
      rcases hz with hz | hz
      · exact .inl (.inl hz)
      · by_cases hz5 : z = w5.heap.size
        · exact .inl (.inr hz5)
        · exact .inr ⟨by omega, by omega⟩)
    refine ⟨g, cap, rfl, hn2, hc, cell_at hbox7 rfl, frozen_blk hbox7 4, L7.other b 4 _ (.inl rfl) hwb, set_box hbox7, ?_, hgb, by omega⟩
    exact EL.kept (ownsRow_low hown) (fun k hk => by cases hk; exact Below.heap_setCell w7 ⟨b, 4, none⟩ _ g hgb)
end Go.Proofs.Ytbgmehanhilicaa

