/- ahead, Last. -/
import Derived.Test.YtclldpecbocclaaGreatK11
namespace Go.Proofs.YtclldpecbocclaaGreat
open Go.RowKit Go.Maps
set_option maxRecDepth 100000
set_option linter.unusedSimpArgs false
set_option linter.unusedVariables false

theorem lt_blk {W : World} {b : Nat} {O : Obj} (h : W.heap[b]? = some O) : b < W.heap.size := (Array.getElem?_eq_some_iff.1 h).1
theorem blk_alloc {W : World} {b : Nat} {O : Obj} (h : W.heap[b]? = some O) (O' : Obj) : (W.alloc O').heap[b]? = some O := by
  rw [Below.heap_alloc _ _ _ (lt_blk h)]; exact h
/-- A block of three cells, also behind one new block. -/
theorem blk3 {W : World} {b : Nat} {u0 u1 u2 : Value} {T : TypeId} (h : W.heap[b]? = some (.cells #[u0, u1, u2] T)) : (∀ O, (W.alloc O).cell? ⟨b, 0, none⟩ = some u0) ∧ (∀ O, (W.alloc O).cell? ⟨b, 1, none⟩ = some u1) ∧ (∀ O, (W.alloc O).cell? ⟨b, 2, none⟩ = some u2) ∧ (∀ O, (W.alloc O).frozen? ⟨b, 0, none⟩ = false) ∧ (∀ O, (W.alloc O).frozen? ⟨b, 1, none⟩ = false) ∧ (∀ O, (W.alloc O).frozen? ⟨b, 2, none⟩ = false) :=
  ⟨fun O => cell_at (blk_alloc h O) rfl, fun O => cell_at (blk_alloc h O) rfl, fun O => cell_at (blk_alloc h O) rfl, fun O => frozen_blk (blk_alloc h O) 0, fun O => frozen_blk (blk_alloc h O) 1, fun O => frozen_blk (blk_alloc h O) 2⟩
theorem kept_blk {w W : World} {O : Obj} (hb : Below (w.alloc O).heap.size (w.alloc O) W) : W.heap[w.heap.size]? = some O := by
  rw [hb.block w.heap.size (by simp)]
  exact heap_alloc_new w O
set_option maxHeartbeats 1600000 in
theorem ahead_any {w : World} {U q a v s} (h : LogM w U q a v s) (hb : LB s) (idx : Int) (hi1 : -9223372036854775807 ≤ idx) (hi2 : idx ≤ 9223372036854775807) :
    Calls Tryz.prog 22 #[.pointer (some ⟨q, 0, none⟩), .int .i64 idx] w fun e w' => e = .returned (evalue (aheadE s idx)) ∧ Below w.heap.size w w' := by
  have hb1 : Below w.heap.size w (w.alloc (.cells #[.int .i64 0, .int .i64 0, .string ⟨#[]⟩] 37)) := (Below.refl _ _).alloc (Nat.le_refl _) _
  have h1 := h.under hb1
  have H15 := hid (at_any h1 hb (idx - 1))
  have HC : Hid (∀ W, Below (w.alloc (.cells #[.int .i64 0, .int .i64 0, .string ⟨#[]⟩] 37)).heap.size (w.alloc (.cells #[.int .i64 0, .int .i64 0, .string ⟨#[]⟩] 37)) W → ∀ O, (W.alloc O).cell? ⟨q, 2, none⟩ = some (.int .i64 s.snap.t) ∧ (W.alloc O).cell? ⟨q, 3, none⟩ = some (.int .i64 s.snap.i) ∧ (W.alloc O).cell? ⟨q, 4, none⟩ = some (.string (strOf s.snap.d))) := fun W hW O => by
    have h2 := (h1.under hW).under ((Below.refl W.heap.size W).alloc (Nat.le_refl _) O)
    exact ⟨h2.c.c2, h2.c.c3, h2.c.c4⟩
  have HB := hid hb1
  have HS : Hid (aheadE s idx = (atE s (idx - 1)).getD s.snap) := rfl
  clear h h1 hb hb1
  unfold evalue at H15 ⊢
  cases hA : atE s (idx - 1) with
  | none =>
    rw [hA] at H15 HS
    simp only [Option.getD_none] at HS
    clear hA
    generalize s.snap = S at *
    obtain ⟨t, i, d⟩ := S
    go_enter Tryz.func22, Tryz.ntmps22
    go_wp2_with (go_at_call 14; refine H15.out.mono ?_; rintro e w2 ⟨rfl, hb2⟩; have p2 := (fun O => (HC.out _ hb2 O).1); have p3 := (fun O => (HC.out _ hb2 O).2.1); have p4 := (fun O => (HC.out _ hb2 O).2.2); obtain ⟨r0, r1, r2, f0, f1, f2⟩ := blk3 (kept_blk hb2); have HB2 := hid (HB.out.trans (hb2.mono HB.out.size)); clear hb2)
    refine bodyPost_ret (v := .agg #[.int .i64 t, .int .i64 i, .string (strOf d)]) (by simp [results, Tryz.results22, go_sem, r0, r1, r2, p2, p3, p4]) rfl ⟨by rw [HS.out], ?_⟩
    exact set3_below (HB2.out.alloc HB2.out.size _) (Nat.le_refl _) _ _ _
  | some x =>
    rw [hA] at H15 HS
    simp only [Option.getD_some] at HS
    clear hA
    obtain ⟨t, i, d⟩ := x
    go_enter Tryz.func22, Tryz.ntmps22
    go_wp2_with (go_at_call 14; refine H15.out.mono ?_; rintro e w2 ⟨rfl, hb2⟩; obtain ⟨r0, r1, r2, f0, f1, f2⟩ := blk3 (kept_blk hb2); have HB2 := hid (HB.out.trans (hb2.mono HB.out.size)); clear hb2)
    refine bodyPost_ret (v := .agg #[.int .i64 t, .int .i64 i, .string (strOf d)]) (by simp [results, Tryz.results22, go_sem, r0, r1, r2]) rfl ⟨by rw [HS.out], ?_⟩
    exact set3_below (HB2.out.alloc HB2.out.size _) (Nat.le_refl _) _ _ _
end Go.Proofs.YtclldpecbocclaaGreat

