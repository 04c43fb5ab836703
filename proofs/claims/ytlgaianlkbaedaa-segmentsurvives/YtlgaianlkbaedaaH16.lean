/- Marks and cursors. -/
import Derived.Test.YtlgaianlkbaedaaH9
import Derived.Test.YtlgaianlkbaedaaH15
import Derived.Deep.RegionHeld3
namespace Go.Proofs.Ytlgaianlkbaedaa
open Go.RowKit Go.Maps Go.Sort
set_option maxRecDepth 100000
set_option linter.unusedSimpArgs false
set_option linter.unusedVariables false

/-- A mark: an offset, a place in the file, how many batches are ahead. -/
structure Mk where
  base : Nat
  at_ : Nat
  nth : Nat
def Mk.val (m : Mk) : Value := .agg #[.int .i64 (m.base : Int), .int .i64 (m.at_ : Int), .int .i64 (m.nth : Int)]
def Mk.next (m : Mk) (n size : Nat) : Mk := ⟨m.base + n, m.at_ + size, m.nth + 1⟩

set_option maxHeartbeats 1600000 in
theorem behind_any (m : Mk) (hm : m.base ≤ 2000000000 ∧ m.at_ ≤ 100000000000 ∧ m.nth ≤ 100000) (x0 x1 x2 x3 x4 : Int) (ra : Option Addr) (n rc : Nat) (hn : n ≤ 100000) (size : Nat) (hs : size ≤ 100000) (w : World) :
    Calls Try.prog 31 #[.agg #[.int .i64 (m.base : Int), .int .i64 (m.at_ : Int), .int .i64 (m.nth : Int)], .agg #[.int .i64 x0, .int .i64 x1, .int .i64 x2, .int .i64 x3, .int .i64 x4, .slice ra n rc], .int .i64 (size : Int)] w fun e w' => e = .returned (.agg #[.int .i64 ((m.base + n : Nat) : Int), .int .i64 ((m.at_ + size : Nat) : Int), .int .i64 ((m.nth + 1 : Nat) : Int)]) ∧ Below w.heap.size w w' := by
  go_enter Try.func31, Try.ntmps31
  go_wp2
  refine bodyPost_ret (v := .agg #[.int .i64 ((m.base + n : Nat) : Int), .int .i64 ((m.at_ + size : Nat) : Int), .int .i64 ((m.nth + 1 : Nat) : Int)]) (by simp [results, Try.results31, go_sem]) rfl ⟨rfl, ?_⟩
  exact (((Below.refl _ _).alloc (Nat.le_refl _) _).alloc (by simp) _).alloc (by simp; omega) _

/-- What a cursor reads. -/
def stepL (m : Mk) (l : List UInt8) : Option (Bat × Mk × List UInt8) :=
  if (readBatchL l).2.2 ≠ 0 ∨ (readBatchL l).1.base ≠ (m.base : Int) then none
  else if 1000000000 < m.base + (readBatchL l).1.recs.length ∨ 4096 < m.nth + 1 then none
  else some ((readBatchL l).1, m.next (readBatchL l).1.recs.length (readBatchL l).2.1, l.drop (readBatchL l).2.1)
/-- What step lays: the cursor, and where it tells a batch and a cursor. -/
structure St (w W : World) (m : Mk) (l : List UInt8) (c1 c2 : Array Value) : Prop where
  below : Below w.heap.size w W
  box : W.heap[w.heap.size]? = some (.cells #[.int .i64 (m.base : Int), .int .i64 (m.at_ : Int), .int .i64 (m.nth : Int), .string (strOf l)] 83)
  o1 : W.heap[w.heap.size + 1]? = some (.cells c1 34)
  o2 : W.heap[w.heap.size + 1 + 1]? = some (.cells c2 83)
theorem St.laid (w : World) (m : Mk) (l : List UInt8) : St w (((w.alloc (.cells #[.int .i64 (m.base : Int), .int .i64 (m.at_ : Int), .int .i64 (m.nth : Int), .string (strOf l)] 83)).alloc (.cells #[.int .i64 0, .int .i64 0, .int .i64 0, .int .i64 0, .int .i64 0, .slice none 0 0] 34)).alloc (.cells #[.int .i64 0, .int .i64 0, .int .i64 0, .string ⟨#[]⟩] 83)) m l #[.int .i64 0, .int .i64 0, .int .i64 0, .int .i64 0, .int .i64 0, .slice none 0 0] #[.int .i64 0, .int .i64 0, .int .i64 0, .string ⟨#[]⟩] := by
  refine ⟨(((Below.refl _ _).alloc (Nat.le_refl _) _).alloc (by simp) _).alloc (by simp; omega) _, ?_, ?_, ?_⟩
  · rw [Below.heap_alloc _ _ _ (by simp; omega), Below.heap_alloc _ _ _ (by simp)]
    exact heap_alloc_new w _
  · rw [Below.heap_alloc _ _ _ (by simp)]
    have := heap_alloc_new (w.alloc (.cells #[.int .i64 (m.base : Int), .int .i64 (m.at_ : Int), .int .i64 (m.nth : Int), .string (strOf l)] 83)) (.cells #[.int .i64 0, .int .i64 0, .int .i64 0, .int .i64 0, .int .i64 0, .slice none 0 0] 34)
    simpa using this
  · have := heap_alloc_new ((w.alloc (.cells #[.int .i64 (m.base : Int), .int .i64 (m.at_ : Int), .int .i64 (m.nth : Int), .string (strOf l)] 83)).alloc (.cells #[.int .i64 0, .int .i64 0, .int .i64 0, .int .i64 0, .int .i64 0, .slice none 0 0] 34)) (.cells #[.int .i64 0, .int .i64 0, .int .i64 0, .string ⟨#[]⟩] 83)
    simpa using this
theorem St.lt {w W m l c1 c2} (h : St w W m l c1 c2) : w.heap.size + 1 + 1 < W.heap.size := (Array.getElem?_eq_some_iff.1 h.o2).1
theorem St.next {w W W' m l c1 c2} (h : St w W m l c1 c2) (hb : Below W.heap.size W W') : St w W' m l c1 c2 := by
  have := h.lt
  exact ⟨h.below.trans (hb.mono (by omega)), (hb.block _ (by omega)).trans h.box, (hb.block _ (by omega)).trans h.o1, (hb.block _ this).trans h.o2⟩
theorem St.cells {w W m l c1 c2} (h : St w W m l c1 c2) : W.cell? ⟨w.heap.size, 0, none⟩ = some (.int .i64 (m.base : Int)) ∧ W.cell? ⟨w.heap.size, 1, none⟩ = some (.int .i64 (m.at_ : Int)) ∧ W.cell? ⟨w.heap.size, 2, none⟩ = some (.int .i64 (m.nth : Int)) ∧ W.cell? ⟨w.heap.size, 3, none⟩ = some (.string (strOf l)) := by
  refine ⟨?_, ?_, ?_, ?_⟩ <;> simp [World.cell?, h.box]
theorem St.z1 {w W m l c2} (h : St w W m l #[.int .i64 0, .int .i64 0, .int .i64 0, .int .i64 0, .int .i64 0, .slice none 0 0] c2) : (W.cell? ⟨w.heap.size + 1, 0, none⟩ = some (.int .i64 0) ∧ W.cell? ⟨w.heap.size + 1, 1, none⟩ = some (.int .i64 0) ∧ W.cell? ⟨w.heap.size + 1, 2, none⟩ = some (.int .i64 0) ∧ W.cell? ⟨w.heap.size + 1, 3, none⟩ = some (.int .i64 0) ∧ W.cell? ⟨w.heap.size + 1, 4, none⟩ = some (.int .i64 0) ∧ W.cell? ⟨w.heap.size + 1, 5, none⟩ = some (.slice none 0 0)) ∧ ∀ j, W.frozen? ⟨w.heap.size + 1, j, none⟩ = false := by
  refine ⟨⟨?_, ?_, ?_, ?_, ?_, ?_⟩, fun j => ?_⟩ <;> simp [World.cell?, World.frozen?, h.o1]
theorem St.z2 {w W m l c1} (h : St w W m l c1 #[.int .i64 0, .int .i64 0, .int .i64 0, .string ⟨#[]⟩]) : (W.cell? ⟨w.heap.size + 1 + 1, 0, none⟩ = some (.int .i64 0) ∧ W.cell? ⟨w.heap.size + 1 + 1, 1, none⟩ = some (.int .i64 0) ∧ W.cell? ⟨w.heap.size + 1 + 1, 2, none⟩ = some (.int .i64 0) ∧ W.cell? ⟨w.heap.size + 1 + 1, 3, none⟩ = some (.string ⟨#[]⟩)) ∧ ∀ j, W.frozen? ⟨w.heap.size + 1 + 1, j, none⟩ = false := by
  refine ⟨⟨?_, ?_, ?_, ?_⟩, fun j => ?_⟩ <;> simp [World.cell?, World.frozen?, h.o2]
theorem set_size (W : World) (p : Addr) (u : Value) : (W.setCell p u).heap.size = W.heap.size := by simp [World.setCell]
theorem cell_at {W : World} {q j : Nat} {T : TypeId} {cs : Array Value} {u : Value} (h : W.heap[q]? = some (.cells cs T)) (hj : cs[j]? = some u) : W.cell? ⟨q, j, none⟩ = some u := by
  simp only [World.cell?, h]
  exact hj
theorem St.set1 {w W m l c1 c2} (h : St w W m l c1 c2) (j : Nat) (u : Value) : St w (W.setCell ⟨w.heap.size + 1, j, none⟩ u) m l (c1.setIfInBounds j u) c2 := by
  refine ⟨⟨h.below.os, h.below.tape, h.below.output, by rw [set_size]; exact h.below.size, fun k hk => (Below.heap_setCell W ⟨w.heap.size + 1, j, none⟩ u k (by show _ ≠ w.heap.size + 1; omega)).trans (h.below.block k hk)⟩, (Below.heap_setCell W ⟨w.heap.size + 1, j, none⟩ u _ (by show _ ≠ w.heap.size + 1; omega)).trans h.box, set_box h.o1, (Below.heap_setCell W ⟨w.heap.size + 1, j, none⟩ u _ (by show _ ≠ w.heap.size + 1; omega)).trans h.o2⟩
theorem St.set2 {w W m l c1 c2} (h : St w W m l c1 c2) (j : Nat) (u : Value) : St w (W.setCell ⟨w.heap.size + 1 + 1, j, none⟩ u) m l c1 (c2.setIfInBounds j u) := by
  refine ⟨⟨h.below.os, h.below.tape, h.below.output, by rw [set_size]; exact h.below.size, fun k hk => (Below.heap_setCell W ⟨w.heap.size + 1 + 1, j, none⟩ u k (by show _ ≠ w.heap.size + 1 + 1; omega)).trans (h.below.block k hk)⟩, (Below.heap_setCell W ⟨w.heap.size + 1 + 1, j, none⟩ u _ (by show _ ≠ w.heap.size + 1 + 1; omega)).trans h.box, (Below.heap_setCell W ⟨w.heap.size + 1 + 1, j, none⟩ u _ (by show _ ≠ w.heap.size + 1 + 1; omega)).trans h.o1, set_box h.o2⟩
theorem St.drew {w W m l c1 c2} (h : St w W m l c1 c2) : St w W.drew m l c1 c2 := h.next (Below.refl _ _).drew
/-- Blocks behind p are as they were. -/
structure Off (p : Nat) (W W' : World) : Prop where
  size : W'.heap.size = W.heap.size
  block : ∀ q, p < q → W'.heap[q]? = W.heap[q]?
theorem Off.set {p : Nat} {W W' : World} (h : Off p W W') (g j : Nat) (u : Value) (hg : g ≤ p) : Off p W (W'.setCell ⟨g, j, none⟩ u) := ⟨by rw [set_size]; exact h.size, fun q hq => (Below.heap_setCell W' ⟨g, j, none⟩ u q (by show _ ≠ g; omega)).trans (h.block q hq)⟩
theorem Off.drew {p : Nat} {W W' : World} (h : Off p W W') : Off p W W'.drew := ⟨h.size, h.block⟩
theorem Off.refl (p : Nat) (W : World) : Off p W W := ⟨rfl, fun _ _ => rfl⟩
theorem put_off (w W : World) (u0 u1 u2 u3 u4 u5 v0 v1 v2 v3 : Value) : Off (w.heap.size + 1 + 1) W ((((((((((W.setCell ⟨w.heap.size + 1, 0, none⟩ (u0)).setCell ⟨w.heap.size + 1, 1, none⟩ (u1)).setCell ⟨w.heap.size + 1, 2, none⟩ (u2)).setCell ⟨w.heap.size + 1, 3, none⟩ (u3)).setCell ⟨w.heap.size + 1, 4, none⟩ (u4)).setCell ⟨w.heap.size + 1, 5, none⟩ (u5)).setCell ⟨w.heap.size + 1 + 1, 0, none⟩ (v0)).setCell ⟨w.heap.size + 1 + 1, 1, none⟩ (v1)).setCell ⟨w.heap.size + 1 + 1, 2, none⟩ (v2)).setCell ⟨w.heap.size + 1 + 1, 3, none⟩ (v3)).drew :=
  (((((((((((Off.refl _ W).set (w.heap.size + 1) 0 u0 (by omega)).set (w.heap.size + 1) 1 u1 (by omega)).set (w.heap.size + 1) 2 u2 (by omega)).set (w.heap.size + 1) 3 u3 (by omega)).set (w.heap.size + 1) 4 u4 (by omega)).set (w.heap.size + 1) 5 u5 (by omega)).set (w.heap.size + 1 + 1) 0 v0 (by omega)).set (w.heap.size + 1 + 1) 1 v1 (by omega)).set (w.heap.size + 1 + 1) 2 v2 (by omega)).set (w.heap.size + 1 + 1) 3 v3 (by omega)).drew
theorem St.put {w W m l} (h : St w W m l #[.int .i64 0, .int .i64 0, .int .i64 0, .int .i64 0, .int .i64 0, .slice none 0 0] #[.int .i64 0, .int .i64 0, .int .i64 0, .string ⟨#[]⟩]) (u0 u1 u2 u3 u4 u5 v0 v1 v2 v3 : Value) : St w ((((((((((W.setCell ⟨w.heap.size + 1, 0, none⟩ (u0)).setCell ⟨w.heap.size + 1, 1, none⟩ (u1)).setCell ⟨w.heap.size + 1, 2, none⟩ (u2)).setCell ⟨w.heap.size + 1, 3, none⟩ (u3)).setCell ⟨w.heap.size + 1, 4, none⟩ (u4)).setCell ⟨w.heap.size + 1, 5, none⟩ (u5)).setCell ⟨w.heap.size + 1 + 1, 0, none⟩ (v0)).setCell ⟨w.heap.size + 1 + 1, 1, none⟩ (v1)).setCell ⟨w.heap.size + 1 + 1, 2, none⟩ (v2)).setCell ⟨w.heap.size + 1 + 1, 3, none⟩ (v3)).drew m l #[u0, u1, u2, u3, u4, u5] #[v0, v1, v2, v3] :=
  (((((((((((h.set1 0 u0).set1 1 u1).set1 2 u2).set1 3 u3).set1 4 u4).set1 5 u5).set2 0 v0).set2 1 v1).set2 2 v2).set2 3 v3)).drew
theorem St.told {w W m l} {u0 u1 u2 u3 u4 u5 v0 v1 v2 v3 : Value} (h : St w W m l #[u0, u1, u2, u3, u4, u5] #[v0, v1, v2, v3]) : (W.cell? ⟨w.heap.size + 1, 0, none⟩ = some u0 ∧ W.cell? ⟨w.heap.size + 1, 1, none⟩ = some u1 ∧ W.cell? ⟨w.heap.size + 1, 2, none⟩ = some u2 ∧ W.cell? ⟨w.heap.size + 1, 3, none⟩ = some u3 ∧ W.cell? ⟨w.heap.size + 1, 4, none⟩ = some u4 ∧ W.cell? ⟨w.heap.size + 1, 5, none⟩ = some u5) ∧ W.cell? ⟨w.heap.size + 1 + 1, 0, none⟩ = some v0 ∧ W.cell? ⟨w.heap.size + 1 + 1, 1, none⟩ = some v1 ∧ W.cell? ⟨w.heap.size + 1 + 1, 2, none⟩ = some v2 ∧ W.cell? ⟨w.heap.size + 1 + 1, 3, none⟩ = some v3 := by
  refine ⟨⟨?_, ?_, ?_, ?_, ?_, ?_⟩, ?_, ?_, ?_, ?_⟩ <;> simp [World.cell?, h.o1, h.o2]
/-- What step tells. -/
def StepPost (m : Mk) (l : List UInt8) (w : World) (e : Ending) (w' : World) : Prop := Below w.heap.size w w' ∧
  (stepL m l = none → e = .returned (.tuple #[.agg #[.int .i64 0, .int .i64 0, .int .i64 0, .int .i64 0, .int .i64 0, .slice none 0 0], .agg #[.int .i64 (m.base : Int), .int .i64 (m.at_ : Int), .int .i64 (m.nth : Int), .string (strOf l)], .bool false])) ∧
  (∀ b m' l', stepL m l = some (b, m', l') → ∃ rv, e = .returned (.tuple #[.agg #[.int .i64 b.base, .int .i64 b.epoch, .int .i64 b.pid, .int .i64 b.pidEpoch, .int .i64 b.seq, rv], .agg #[.int .i64 (m'.base : Int), .int .i64 (m'.at_ : Int), .int .i64 (m'.nth : Int), .string (strOf l')], .bool true]) ∧ Recs w' rv b.recs ∧ ∀ k, rv.ownBlock = some k → w.heap.size ≤ k)

set_option maxHeartbeats 3200000 in
theorem step_no1 (m : Mk) (hm : m.base ≤ 1000000000 ∧ m.at_ ≤ 100000000 ∧ m.nth ≤ 4096) (l : List UInt8) (hl : l.length ≤ 100000000) (w : World) (hE : (readBatchL l).2.2 ≠ 0) :
    Calls Try.prog 42 #[.agg #[.int .i64 (m.base : Int), .int .i64 (m.at_ : Int), .int .i64 (m.nth : Int), .string (strOf l)]] w fun e w' => StepPost m l w e w' := by
  have HS : Hid (stepL m l = none) := by show _ = _; unfold stepL; rw [if_pos (.inl hE)]
  have HR := hid (fun W => readBatch_any (w := W) l (by unfold maxLen; omega))
  generalize readBatchL l = R at *
  obtain ⟨b, k, E⟩ := R
  simp only at HR hE
  have hE' : (E != 0) = true := by simpa using hE
  clear hE
  go_enter Try.func42, Try.ntmps42
  go_wp2_with fail
  refine (HR.out _).mono ?_
  rintro e w1 ⟨rv, rfl, hrec, hb1, hown⟩
  obtain ⟨ra, rc, hrv, _⟩ := hrec.shape
  subst hrv
  have H1 := hid ((St.laid w m l).next hb1)
  clear hrec hown hb1
  have H2 := hid (H1.out.next ((Below.refl _ _).alloc (Nat.le_refl _) (.cells #[.int .i64 b.base, .int .i64 b.epoch, .int .i64 b.pid, .int .i64 b.pidEpoch, .int .i64 b.seq, .slice ra b.recs.length rc] 34)))
  go_wp2_with fail
  generalize w1.alloc (.cells #[.int .i64 b.base, .int .i64 b.epoch, .int .i64 b.pid, .int .i64 b.pidEpoch, .int .i64 b.seq, .slice ra b.recs.length rc] 34) = W2 at *
  obtain ⟨c0, c1, c2, c3⟩ := H2.out.cells
  obtain ⟨⟨a0, a1, a2, a3, a4, a5⟩, af⟩ := H2.out.z1
  obtain ⟨⟨d0, d1, d2, d3⟩, df⟩ := H2.out.z2
  go_region
  go_wp2_with fail
  have Z := hid (H2.out.put (.int .i64 0) (.int .i64 0) (.int .i64 0) (.int .i64 0) (.int .i64 0) (.slice none 0 0) (.int .i64 (m.base : Int)) (.int .i64 (m.at_ : Int)) (.int .i64 (m.nth : Int)) (.string (strOf l)))
  generalize ((((((((((W2.setCell ⟨w.heap.size + 1, 0, none⟩ (.int .i64 0)).setCell ⟨w.heap.size + 1, 1, none⟩ (.int .i64 0)).setCell ⟨w.heap.size + 1, 2, none⟩ (.int .i64 0)).setCell ⟨w.heap.size + 1, 3, none⟩ (.int .i64 0)).setCell ⟨w.heap.size + 1, 4, none⟩ (.int .i64 0)).setCell ⟨w.heap.size + 1, 5, none⟩ (.slice none 0 0)).setCell ⟨w.heap.size + 1 + 1, 0, none⟩ (.int .i64 (m.base : Int))).setCell ⟨w.heap.size + 1 + 1, 1, none⟩ (.int .i64 (m.at_ : Int))).setCell ⟨w.heap.size + 1 + 1, 2, none⟩ (.int .i64 (m.nth : Int))).setCell ⟨w.heap.size + 1 + 1, 3, none⟩ (.string (strOf l))).drew = W9 at *
  obtain ⟨⟨e0, e1, e2, e3, e4, e5⟩, g0, g1, g2, g3⟩ := Z.out.told
  refine bodyPost_ret (v := .tuple #[.agg #[.int .i64 0, .int .i64 0, .int .i64 0, .int .i64 0, .int .i64 0, .slice none 0 0], .agg #[.int .i64 (m.base : Int), .int .i64 (m.at_ : Int), .int .i64 (m.nth : Int), .string (strOf l)], .bool false]) (by simp [results, Try.results42, go_sem, e0, e1, e2, e3, e4, e5, g0, g1, g2, g3]) rfl ⟨Z.out.below, fun _ => rfl, fun b m' l' h => by rw [HS.out] at h; cases h⟩

set_option maxHeartbeats 3200000 in
theorem step_no2 (m : Mk) (hm : m.base ≤ 1000000000 ∧ m.at_ ≤ 100000000 ∧ m.nth ≤ 4096) (l : List UInt8) (hl : l.length ≤ 100000000) (w : World) (hE : (readBatchL l).2.2 = 0) (hB : (readBatchL l).1.base ≠ (m.base : Int)) :
    Calls Try.prog 42 #[.agg #[.int .i64 (m.base : Int), .int .i64 (m.at_ : Int), .int .i64 (m.nth : Int), .string (strOf l)]] w fun e w' => StepPost m l w e w' := by
  have HS : Hid (stepL m l = none) := by show _ = _; unfold stepL; rw [if_pos (.inr hB)]
  have HR := hid (fun W => readBatch_any (w := W) l (by unfold maxLen; omega))
  generalize readBatchL l = R at *
  obtain ⟨b, k, E⟩ := R
  simp only at HR hE hB
  subst hE
  have hB' : (b.base != (m.base : Int)) = true := by simpa using hB
  clear hB
  go_enter Try.func42, Try.ntmps42
  go_wp2_with fail
  refine (HR.out _).mono ?_
  rintro e w1 ⟨rv, rfl, hrec, hb1, hown⟩
  obtain ⟨ra, rc, hrv, _⟩ := hrec.shape
  subst hrv
  have H1 := hid ((St.laid w m l).next hb1)
  clear hrec hown hb1
  have H2 := hid (H1.out.next ((Below.refl _ _).alloc (Nat.le_refl _) (.cells #[.int .i64 b.base, .int .i64 b.epoch, .int .i64 b.pid, .int .i64 b.pidEpoch, .int .i64 b.seq, .slice ra b.recs.length rc] 34)))
  have HX := hid (heap_alloc_new w1 (.cells #[.int .i64 b.base, .int .i64 b.epoch, .int .i64 b.pid, .int .i64 b.pidEpoch, .int .i64 b.seq, .slice ra b.recs.length rc] 34))
  have x0 : (w1.alloc (.cells #[.int .i64 b.base, .int .i64 b.epoch, .int .i64 b.pid, .int .i64 b.pidEpoch, .int .i64 b.seq, .slice ra b.recs.length rc] 34)).cell? ⟨w1.heap.size, 0, none⟩ = some (.int .i64 b.base) := cell_at HX.out rfl
  have c0' := H2.out.cells.1
  go_wp2_with fail
  generalize w1.alloc (.cells #[.int .i64 b.base, .int .i64 b.epoch, .int .i64 b.pid, .int .i64 b.pidEpoch, .int .i64 b.seq, .slice ra b.recs.length rc] 34) = W2 at *
  obtain ⟨c0, c1, c2, c3⟩ := H2.out.cells
  obtain ⟨⟨a0, a1, a2, a3, a4, a5⟩, af⟩ := H2.out.z1
  obtain ⟨⟨d0, d1, d2, d3⟩, df⟩ := H2.out.z2
  go_region
  go_wp2_with fail
  have Z := hid (H2.out.put (.int .i64 0) (.int .i64 0) (.int .i64 0) (.int .i64 0) (.int .i64 0) (.slice none 0 0) (.int .i64 (m.base : Int)) (.int .i64 (m.at_ : Int)) (.int .i64 (m.nth : Int)) (.string (strOf l)))
  generalize ((((((((((W2.setCell ⟨w.heap.size + 1, 0, none⟩ (.int .i64 0)).setCell ⟨w.heap.size + 1, 1, none⟩ (.int .i64 0)).setCell ⟨w.heap.size + 1, 2, none⟩ (.int .i64 0)).setCell ⟨w.heap.size + 1, 3, none⟩ (.int .i64 0)).setCell ⟨w.heap.size + 1, 4, none⟩ (.int .i64 0)).setCell ⟨w.heap.size + 1, 5, none⟩ (.slice none 0 0)).setCell ⟨w.heap.size + 1 + 1, 0, none⟩ (.int .i64 (m.base : Int))).setCell ⟨w.heap.size + 1 + 1, 1, none⟩ (.int .i64 (m.at_ : Int))).setCell ⟨w.heap.size + 1 + 1, 2, none⟩ (.int .i64 (m.nth : Int))).setCell ⟨w.heap.size + 1 + 1, 3, none⟩ (.string (strOf l))).drew = W9 at *
  obtain ⟨⟨e0, e1, e2, e3, e4, e5⟩, g0, g1, g2, g3⟩ := Z.out.told
  refine bodyPost_ret (v := .tuple #[.agg #[.int .i64 0, .int .i64 0, .int .i64 0, .int .i64 0, .int .i64 0, .slice none 0 0], .agg #[.int .i64 (m.base : Int), .int .i64 (m.at_ : Int), .int .i64 (m.nth : Int), .string (strOf l)], .bool false]) (by simp [results, Try.results42, go_sem, e0, e1, e2, e3, e4, e5, g0, g1, g2, g3]) rfl ⟨Z.out.below, fun _ => rfl, fun b m' l' h => by rw [HS.out] at h; cases h⟩

set_option maxHeartbeats 3200000 in
theorem step_no3 (m : Mk) (hm : m.base ≤ 1000000000 ∧ m.at_ ≤ 100000000 ∧ m.nth ≤ 4096) (l : List UInt8) (hl : l.length ≤ 100000000) (w : World) (hE : (readBatchL l).2.2 = 0) (hB : (readBatchL l).1.base = (m.base : Int)) (hk : (readBatchL l).2.1 ≤ l.length) (hkk : (readBatchL l).2.1 ≤ 4096) (hn : (readBatchL l).1.recs.length ≤ 64) (hO : 1000000000 < m.base + (readBatchL l).1.recs.length ∨ 4096 < m.nth + 1) :
    Calls Try.prog 42 #[.agg #[.int .i64 (m.base : Int), .int .i64 (m.at_ : Int), .int .i64 (m.nth : Int), .string (strOf l)]] w fun e w' => StepPost m l w e w' := by
  have HS : Hid (stepL m l = none) := by show _ = _; unfold stepL; rw [if_neg (by simp [hE, hB]), if_pos hO]
  have HR := hid (fun W => readBatch_any (w := W) l (by unfold maxLen; omega))
  generalize readBatchL l = R at *
  obtain ⟨b, k, E⟩ := R
  simp only at HR hE hB hk hkk hn HS hO
  subst hE
  have hB' : (b.base != (m.base : Int)) = false := by simpa using hB
  obtain ⟨hm1, hm2, hm3⟩ := hm
  have HBe := hid (fun ra rc W => behind_any m ⟨by omega, by omega, by omega⟩ b.base b.epoch b.pid b.pidEpoch b.seq ra b.recs.length rc (by omega) k (by omega) W)
  clear hB
  obtain ⟨B2, hB2⟩ : ∃ B2, B2 = m.base + b.recs.length := ⟨_, rfl⟩
  obtain ⟨A2, hA2⟩ : ∃ A2, A2 = m.at_ + k := ⟨_, rfl⟩
  obtain ⟨N2, hN2⟩ : ∃ N2, N2 = m.nth + 1 := ⟨_, rfl⟩
  rw [← hB2, ← hA2, ← hN2] at HBe
  rw [← hB2, ← hN2] at hO
  have HEQ := hid (And.intro hB2 (And.intro hA2 hN2))
  clear hB2 hA2 hN2
  go_enter Try.func42, Try.ntmps42
  go_wp2_with fail
  refine (HR.out _).mono ?_
  rintro e w1 ⟨rv, rfl, hrec, hb1, hown⟩
  obtain ⟨ra, rc, hrv, _⟩ := hrec.shape
  subst hrv
  have H1 := hid ((St.laid w m l).next hb1)
  have HREC : Hid (Recs w1 (.slice ra b.recs.length rc) b.recs ∧ ∀ q, (Value.slice ra b.recs.length rc).ownBlock = some q → w.heap.size + 1 + 1 < q) := ⟨hrec, fun q hq => by have := hown q hq; simp at this; omega⟩
  have hb1s := hb1.size
  clear hrec hown hb1
  have H2 := hid (H1.out.next ((Below.refl _ _).alloc (Nat.le_refl _) (.cells #[.int .i64 b.base, .int .i64 b.epoch, .int .i64 b.pid, .int .i64 b.pidEpoch, .int .i64 b.seq, .slice ra b.recs.length rc] 34)))
  have HX := hid (heap_alloc_new w1 (.cells #[.int .i64 b.base, .int .i64 b.epoch, .int .i64 b.pid, .int .i64 b.pidEpoch, .int .i64 b.seq, .slice ra b.recs.length rc] 34))
  have HREC2 := hid (HREC.out.1.under ((Below.refl _ _).alloc (Nat.le_refl _) (.cells #[.int .i64 b.base, .int .i64 b.epoch, .int .i64 b.pid, .int .i64 b.pidEpoch, .int .i64 b.seq, .slice ra b.recs.length rc] 34)))
  obtain ⟨x0, x1, x2, x3, x4, x5⟩ : (w1.alloc (.cells #[.int .i64 b.base, .int .i64 b.epoch, .int .i64 b.pid, .int .i64 b.pidEpoch, .int .i64 b.seq, .slice ra b.recs.length rc] 34)).cell? ⟨w1.heap.size, 0, none⟩ = some (.int .i64 b.base) ∧ (w1.alloc (.cells #[.int .i64 b.base, .int .i64 b.epoch, .int .i64 b.pid, .int .i64 b.pidEpoch, .int .i64 b.seq, .slice ra b.recs.length rc] 34)).cell? ⟨w1.heap.size, 1, none⟩ = some (.int .i64 b.epoch) ∧ (w1.alloc (.cells #[.int .i64 b.base, .int .i64 b.epoch, .int .i64 b.pid, .int .i64 b.pidEpoch, .int .i64 b.seq, .slice ra b.recs.length rc] 34)).cell? ⟨w1.heap.size, 2, none⟩ = some (.int .i64 b.pid) ∧ (w1.alloc (.cells #[.int .i64 b.base, .int .i64 b.epoch, .int .i64 b.pid, .int .i64 b.pidEpoch, .int .i64 b.seq, .slice ra b.recs.length rc] 34)).cell? ⟨w1.heap.size, 3, none⟩ = some (.int .i64 b.pidEpoch) ∧ (w1.alloc (.cells #[.int .i64 b.base, .int .i64 b.epoch, .int .i64 b.pid, .int .i64 b.pidEpoch, .int .i64 b.seq, .slice ra b.recs.length rc] 34)).cell? ⟨w1.heap.size, 4, none⟩ = some (.int .i64 b.seq) ∧ (w1.alloc (.cells #[.int .i64 b.base, .int .i64 b.epoch, .int .i64 b.pid, .int .i64 b.pidEpoch, .int .i64 b.seq, .slice ra b.recs.length rc] 34)).cell? ⟨w1.heap.size, 5, none⟩ = some (.slice ra b.recs.length rc) := ⟨cell_at HX.out rfl, cell_at HX.out rfl, cell_at HX.out rfl, cell_at HX.out rfl, cell_at HX.out rfl, cell_at HX.out rfl⟩
  obtain ⟨c0, c1, c2, c3⟩ := H2.out.cells
  go_wp2_with fail
  refine (HBe.out _ _ _).mono ?_
  rintro e w2 ⟨rfl, hb2⟩
  have H4 := hid (H2.out.next hb2)
  have hlx : w1.heap.size < (w1.alloc (.cells #[.int .i64 b.base, .int .i64 b.epoch, .int .i64 b.pid, .int .i64 b.pidEpoch, .int .i64 b.seq, .slice ra b.recs.length rc] 34)).heap.size := by simp
  have HX2 := hid ((hb2.block _ hlx).trans HX.out)
  have HREC3 := hid (HREC2.out.under hb2)
  have hlt2 : w1.heap.size < w2.heap.size := Nat.lt_of_lt_of_le hlx hb2.size
  clear hb2 HX HREC2 x0 x1 x2 x3 x4 x5 c0 c1 c2 c3 hlx HBe HR
  have H3 := hid (H4.out.next ((Below.refl _ _).alloc (Nat.le_refl _) (.cells #[.int .i64 (B2 : Int), .int .i64 (A2 : Int), .int .i64 (N2 : Int)] 61)))
  have HX3 := hid ((Below.heap_alloc w2 (.cells #[.int .i64 (B2 : Int), .int .i64 (A2 : Int), .int .i64 (N2 : Int)] 61) _ hlt2).trans HX2.out)
  have HM3 := hid (heap_alloc_new w2 (.cells #[.int .i64 (B2 : Int), .int .i64 (A2 : Int), .int .i64 (N2 : Int)] 61))
  have HREC4 := hid (HREC3.out.under ((Below.refl _ _).alloc (Nat.le_refl _) (.cells #[.int .i64 (B2 : Int), .int .i64 (A2 : Int), .int .i64 (N2 : Int)] 61)))
  obtain ⟨y0, y1, y2⟩ : (w2.alloc (.cells #[.int .i64 (B2 : Int), .int .i64 (A2 : Int), .int .i64 (N2 : Int)] 61)).cell? ⟨w2.heap.size, 0, none⟩ = some (.int .i64 (B2 : Int)) ∧ (w2.alloc (.cells #[.int .i64 (B2 : Int), .int .i64 (A2 : Int), .int .i64 (N2 : Int)] 61)).cell? ⟨w2.heap.size, 1, none⟩ = some (.int .i64 (A2 : Int)) ∧ (w2.alloc (.cells #[.int .i64 (B2 : Int), .int .i64 (A2 : Int), .int .i64 (N2 : Int)] 61)).cell? ⟨w2.heap.size, 2, none⟩ = some (.int .i64 (N2 : Int)) := ⟨cell_at HM3.out rfl, cell_at HM3.out rfl, cell_at HM3.out rfl⟩
  by_cases hO1 : 1000000000 < B2
  · have hO1' : (1000000000 : Int) < (B2 : Int) := by omega
    go_wp2_with fail
    generalize w2.alloc (.cells #[.int .i64 (B2 : Int), .int .i64 (A2 : Int), .int .i64 (N2 : Int)] 61) = W3 at *
    obtain ⟨c0, c1, c2, c3⟩ := H3.out.cells
    obtain ⟨⟨a0, a1, a2, a3, a4, a5⟩, af⟩ := H3.out.z1
    obtain ⟨⟨d0, d1, d2, d3⟩, df⟩ := H3.out.z2
    go_region
    go_wp2_with fail
    have Z := hid (H3.out.put (.int .i64 0) (.int .i64 0) (.int .i64 0) (.int .i64 0) (.int .i64 0) (.slice none 0 0) (.int .i64 (m.base : Int)) (.int .i64 (m.at_ : Int)) (.int .i64 (m.nth : Int)) (.string (strOf l)))
    generalize ((((((((((W3.setCell ⟨w.heap.size + 1, 0, none⟩ (.int .i64 0)).setCell ⟨w.heap.size + 1, 1, none⟩ (.int .i64 0)).setCell ⟨w.heap.size + 1, 2, none⟩ (.int .i64 0)).setCell ⟨w.heap.size + 1, 3, none⟩ (.int .i64 0)).setCell ⟨w.heap.size + 1, 4, none⟩ (.int .i64 0)).setCell ⟨w.heap.size + 1, 5, none⟩ (.slice none 0 0)).setCell ⟨w.heap.size + 1 + 1, 0, none⟩ (.int .i64 (m.base : Int))).setCell ⟨w.heap.size + 1 + 1, 1, none⟩ (.int .i64 (m.at_ : Int))).setCell ⟨w.heap.size + 1 + 1, 2, none⟩ (.int .i64 (m.nth : Int))).setCell ⟨w.heap.size + 1 + 1, 3, none⟩ (.string (strOf l))).drew = W9 at *
    obtain ⟨⟨e0, e1, e2, e3, e4, e5⟩, g0, g1, g2, g3⟩ := Z.out.told
    refine bodyPost_ret (v := .tuple #[.agg #[.int .i64 0, .int .i64 0, .int .i64 0, .int .i64 0, .int .i64 0, .slice none 0 0], .agg #[.int .i64 (m.base : Int), .int .i64 (m.at_ : Int), .int .i64 (m.nth : Int), .string (strOf l)], .bool false]) (by simp [results, Try.results42, go_sem, e0, e1, e2, e3, e4, e5, g0, g1, g2, g3]) rfl ⟨Z.out.below, fun _ => rfl, fun b m' l' h => by rw [HS.out] at h; cases h⟩
  · have hO1' : ¬ (1000000000 : Int) < (B2 : Int) := by omega
    have hO2' : (4096 : Int) < (N2 : Int) := by omega
    go_wp2_with fail
    generalize w2.alloc (.cells #[.int .i64 (B2 : Int), .int .i64 (A2 : Int), .int .i64 (N2 : Int)] 61) = W3 at *
    obtain ⟨c0, c1, c2, c3⟩ := H3.out.cells
    obtain ⟨⟨a0, a1, a2, a3, a4, a5⟩, af⟩ := H3.out.z1
    obtain ⟨⟨d0, d1, d2, d3⟩, df⟩ := H3.out.z2
    go_region
    go_wp2_with fail
    have Z := hid (H3.out.put (.int .i64 0) (.int .i64 0) (.int .i64 0) (.int .i64 0) (.int .i64 0) (.slice none 0 0) (.int .i64 (m.base : Int)) (.int .i64 (m.at_ : Int)) (.int .i64 (m.nth : Int)) (.string (strOf l)))
    generalize ((((((((((W3.setCell ⟨w.heap.size + 1, 0, none⟩ (.int .i64 0)).setCell ⟨w.heap.size + 1, 1, none⟩ (.int .i64 0)).setCell ⟨w.heap.size + 1, 2, none⟩ (.int .i64 0)).setCell ⟨w.heap.size + 1, 3, none⟩ (.int .i64 0)).setCell ⟨w.heap.size + 1, 4, none⟩ (.int .i64 0)).setCell ⟨w.heap.size + 1, 5, none⟩ (.slice none 0 0)).setCell ⟨w.heap.size + 1 + 1, 0, none⟩ (.int .i64 (m.base : Int))).setCell ⟨w.heap.size + 1 + 1, 1, none⟩ (.int .i64 (m.at_ : Int))).setCell ⟨w.heap.size + 1 + 1, 2, none⟩ (.int .i64 (m.nth : Int))).setCell ⟨w.heap.size + 1 + 1, 3, none⟩ (.string (strOf l))).drew = W9 at *
    obtain ⟨⟨e0, e1, e2, e3, e4, e5⟩, g0, g1, g2, g3⟩ := Z.out.told
    refine bodyPost_ret (v := .tuple #[.agg #[.int .i64 0, .int .i64 0, .int .i64 0, .int .i64 0, .int .i64 0, .slice none 0 0], .agg #[.int .i64 (m.base : Int), .int .i64 (m.at_ : Int), .int .i64 (m.nth : Int), .string (strOf l)], .bool false]) (by simp [results, Try.results42, go_sem, e0, e1, e2, e3, e4, e5, g0, g1, g2, g3]) rfl ⟨Z.out.below, fun _ => rfl, fun b m' l' h => by rw [HS.out] at h; cases h⟩

set_option maxHeartbeats 3200000 in
theorem step_yes (m : Mk) (hm : m.base ≤ 1000000000 ∧ m.at_ ≤ 100000000 ∧ m.nth ≤ 4096) (l : List UInt8) (hl : l.length ≤ 100000000) (w : World) (hE : (readBatchL l).2.2 = 0) (hB : (readBatchL l).1.base = (m.base : Int)) (hk : (readBatchL l).2.1 ≤ l.length) (hkk : (readBatchL l).2.1 ≤ 4096) (hn : (readBatchL l).1.recs.length ≤ 64) (hO : ¬ (1000000000 < m.base + (readBatchL l).1.recs.length ∨ 4096 < m.nth + 1)) :
    Calls Try.prog 42 #[.agg #[.int .i64 (m.base : Int), .int .i64 (m.at_ : Int), .int .i64 (m.nth : Int), .string (strOf l)]] w fun e w' => StepPost m l w e w' := by
  have HS : Hid (stepL m l = some ((readBatchL l).1, m.next (readBatchL l).1.recs.length (readBatchL l).2.1, l.drop (readBatchL l).2.1)) := by show _ = _; unfold stepL; rw [if_neg (by simp [hE, hB]), if_neg hO]
  have HR := hid (fun W => readBatch_any (w := W) l (by unfold maxLen; omega))
  generalize readBatchL l = R at *
  obtain ⟨b, k, E⟩ := R
  simp only at HR hE hB hk hkk hn HS hO
  subst hE
  have hB' : (b.base != (m.base : Int)) = false := by simpa using hB
  obtain ⟨hm1, hm2, hm3⟩ := hm
  have HBe := hid (fun ra rc W => behind_any m ⟨by omega, by omega, by omega⟩ b.base b.epoch b.pid b.pidEpoch b.seq ra b.recs.length rc (by omega) k (by omega) W)
  clear hB
  obtain ⟨B2, hB2⟩ : ∃ B2, B2 = m.base + b.recs.length := ⟨_, rfl⟩
  obtain ⟨A2, hA2⟩ : ∃ A2, A2 = m.at_ + k := ⟨_, rfl⟩
  obtain ⟨N2, hN2⟩ : ∃ N2, N2 = m.nth + 1 := ⟨_, rfl⟩
  rw [← hB2, ← hA2, ← hN2] at HBe
  rw [← hB2, ← hN2] at hO
  have HEQ := hid (And.intro hB2 (And.intro hA2 hN2))
  clear hB2 hA2 hN2
  go_enter Try.func42, Try.ntmps42
  go_wp2_with fail
  refine (HR.out _).mono ?_
  rintro e w1 ⟨rv, rfl, hrec, hb1, hown⟩
  obtain ⟨ra, rc, hrv, _⟩ := hrec.shape
  subst hrv
  have H1 := hid ((St.laid w m l).next hb1)
  have HREC : Hid (Recs w1 (.slice ra b.recs.length rc) b.recs ∧ ∀ q, (Value.slice ra b.recs.length rc).ownBlock = some q → w.heap.size + 1 + 1 < q) := ⟨hrec, fun q hq => by have := hown q hq; simp at this; omega⟩
  have hb1s := hb1.size
  clear hrec hown hb1
  have H2 := hid (H1.out.next ((Below.refl _ _).alloc (Nat.le_refl _) (.cells #[.int .i64 b.base, .int .i64 b.epoch, .int .i64 b.pid, .int .i64 b.pidEpoch, .int .i64 b.seq, .slice ra b.recs.length rc] 34)))
  have HX := hid (heap_alloc_new w1 (.cells #[.int .i64 b.base, .int .i64 b.epoch, .int .i64 b.pid, .int .i64 b.pidEpoch, .int .i64 b.seq, .slice ra b.recs.length rc] 34))
  have HREC2 := hid (HREC.out.1.under ((Below.refl _ _).alloc (Nat.le_refl _) (.cells #[.int .i64 b.base, .int .i64 b.epoch, .int .i64 b.pid, .int .i64 b.pidEpoch, .int .i64 b.seq, .slice ra b.recs.length rc] 34)))
  obtain ⟨x0, x1, x2, x3, x4, x5⟩ : (w1.alloc (.cells #[.int .i64 b.base, .int .i64 b.epoch, .int .i64 b.pid, .int .i64 b.pidEpoch, .int .i64 b.seq, .slice ra b.recs.length rc] 34)).cell? ⟨w1.heap.size, 0, none⟩ = some (.int .i64 b.base) ∧ (w1.alloc (.cells #[.int .i64 b.base, .int .i64 b.epoch, .int .i64 b.pid, .int .i64 b.pidEpoch, .int .i64 b.seq, .slice ra b.recs.length rc] 34)).cell? ⟨w1.heap.size, 1, none⟩ = some (.int .i64 b.epoch) ∧ (w1.alloc (.cells #[.int .i64 b.base, .int .i64 b.epoch, .int .i64 b.pid, .int .i64 b.pidEpoch, .int .i64 b.seq, .slice ra b.recs.length rc] 34)).cell? ⟨w1.heap.size, 2, none⟩ = some (.int .i64 b.pid) ∧ (w1.alloc (.cells #[.int .i64 b.base, .int .i64 b.epoch, .int .i64 b.pid, .int .i64 b.pidEpoch, .int .i64 b.seq, .slice ra b.recs.length rc] 34)).cell? ⟨w1.heap.size, 3, none⟩ = some (.int .i64 b.pidEpoch) ∧ (w1.alloc (.cells #[.int .i64 b.base, .int .i64 b.epoch, .int .i64 b.pid, .int .i64 b.pidEpoch, .int .i64 b.seq, .slice ra b.recs.length rc] 34)).cell? ⟨w1.heap.size, 4, none⟩ = some (.int .i64 b.seq) ∧ (w1.alloc (.cells #[.int .i64 b.base, .int .i64 b.epoch, .int .i64 b.pid, .int .i64 b.pidEpoch, .int .i64 b.seq, .slice ra b.recs.length rc] 34)).cell? ⟨w1.heap.size, 5, none⟩ = some (.slice ra b.recs.length rc) := ⟨cell_at HX.out rfl, cell_at HX.out rfl, cell_at HX.out rfl, cell_at HX.out rfl, cell_at HX.out rfl, cell_at HX.out rfl⟩
  obtain ⟨c0, c1, c2, c3⟩ := H2.out.cells
  go_wp2_with fail
  refine (HBe.out _ _ _).mono ?_
  rintro e w2 ⟨rfl, hb2⟩
  have H4 := hid (H2.out.next hb2)
  have hlx : w1.heap.size < (w1.alloc (.cells #[.int .i64 b.base, .int .i64 b.epoch, .int .i64 b.pid, .int .i64 b.pidEpoch, .int .i64 b.seq, .slice ra b.recs.length rc] 34)).heap.size := by simp
  have HX2 := hid ((hb2.block _ hlx).trans HX.out)
  have HREC3 := hid (HREC2.out.under hb2)
  have hlt2 : w1.heap.size < w2.heap.size := Nat.lt_of_lt_of_le hlx hb2.size
  clear hb2 HX HREC2 x0 x1 x2 x3 x4 x5 c0 c1 c2 c3 hlx HBe HR
  have H3 := hid (H4.out.next ((Below.refl _ _).alloc (Nat.le_refl _) (.cells #[.int .i64 (B2 : Int), .int .i64 (A2 : Int), .int .i64 (N2 : Int)] 61)))
  have HX3 := hid ((Below.heap_alloc w2 (.cells #[.int .i64 (B2 : Int), .int .i64 (A2 : Int), .int .i64 (N2 : Int)] 61) _ hlt2).trans HX2.out)
  have HM3 := hid (heap_alloc_new w2 (.cells #[.int .i64 (B2 : Int), .int .i64 (A2 : Int), .int .i64 (N2 : Int)] 61))
  have HREC4 := hid (HREC3.out.under ((Below.refl _ _).alloc (Nat.le_refl _) (.cells #[.int .i64 (B2 : Int), .int .i64 (A2 : Int), .int .i64 (N2 : Int)] 61)))
  obtain ⟨y0, y1, y2⟩ : (w2.alloc (.cells #[.int .i64 (B2 : Int), .int .i64 (A2 : Int), .int .i64 (N2 : Int)] 61)).cell? ⟨w2.heap.size, 0, none⟩ = some (.int .i64 (B2 : Int)) ∧ (w2.alloc (.cells #[.int .i64 (B2 : Int), .int .i64 (A2 : Int), .int .i64 (N2 : Int)] 61)).cell? ⟨w2.heap.size, 1, none⟩ = some (.int .i64 (A2 : Int)) ∧ (w2.alloc (.cells #[.int .i64 (B2 : Int), .int .i64 (A2 : Int), .int .i64 (N2 : Int)] 61)).cell? ⟨w2.heap.size, 2, none⟩ = some (.int .i64 (N2 : Int)) := ⟨cell_at HM3.out rfl, cell_at HM3.out rfl, cell_at HM3.out rfl⟩
  have hO1' : ¬ (1000000000 : Int) < (B2 : Int) := by omega
  have hO2' : ¬ (4096 : Int) < (N2 : Int) := by omega
  go_wp2_with fail
  obtain ⟨x0, x1, x2, x3, x4, x5⟩ : (w2.alloc (.cells #[.int .i64 (B2 : Int), .int .i64 (A2 : Int), .int .i64 (N2 : Int)] 61)).cell? ⟨w1.heap.size, 0, none⟩ = some (.int .i64 b.base) ∧ (w2.alloc (.cells #[.int .i64 (B2 : Int), .int .i64 (A2 : Int), .int .i64 (N2 : Int)] 61)).cell? ⟨w1.heap.size, 1, none⟩ = some (.int .i64 b.epoch) ∧ (w2.alloc (.cells #[.int .i64 (B2 : Int), .int .i64 (A2 : Int), .int .i64 (N2 : Int)] 61)).cell? ⟨w1.heap.size, 2, none⟩ = some (.int .i64 b.pid) ∧ (w2.alloc (.cells #[.int .i64 (B2 : Int), .int .i64 (A2 : Int), .int .i64 (N2 : Int)] 61)).cell? ⟨w1.heap.size, 3, none⟩ = some (.int .i64 b.pidEpoch) ∧ (w2.alloc (.cells #[.int .i64 (B2 : Int), .int .i64 (A2 : Int), .int .i64 (N2 : Int)] 61)).cell? ⟨w1.heap.size, 4, none⟩ = some (.int .i64 b.seq) ∧ (w2.alloc (.cells #[.int .i64 (B2 : Int), .int .i64 (A2 : Int), .int .i64 (N2 : Int)] 61)).cell? ⟨w1.heap.size, 5, none⟩ = some (.slice ra b.recs.length rc) := ⟨cell_at HX3.out rfl, cell_at HX3.out rfl, cell_at HX3.out rfl, cell_at HX3.out rfl, cell_at HX3.out rfl, cell_at HX3.out rfl⟩
  have hx := extract_drop l k
  have hsz := strOf_size l
  have hkl : (k : Int) ≤ (l.length : Int) := by omega
  have hl4 := H4.out.lt
  have hl1 := H1.out.lt
  have n1 : ¬ w2.heap.size = w.heap.size := by omega
  have n2 : ¬ w2.heap.size = w.heap.size + 1 := by omega
  have n3 : ¬ w2.heap.size = w.heap.size + 1 + 1 := by omega
  have n4 : ¬ w1.heap.size = w.heap.size := by omega
  have n5 : ¬ w1.heap.size = w.heap.size + 1 := by omega
  have n6 : ¬ w1.heap.size = w.heap.size + 1 + 1 := by omega
  have n7 : ¬ w.heap.size + 1 = w2.heap.size := by omega
  have n8 : ¬ w.heap.size + 1 + 1 = w2.heap.size := by omega
  have n9 : ¬ w.heap.size + 1 = w1.heap.size := by omega
  have n10 : ¬ w.heap.size + 1 + 1 = w1.heap.size := by omega
  generalize w2.alloc (.cells #[.int .i64 (B2 : Int), .int .i64 (A2 : Int), .int .i64 (N2 : Int)] 61) = W3 at *
  obtain ⟨c0, c1, c2, c3⟩ := H3.out.cells
  obtain ⟨⟨a0, a1, a2, a3, a4, a5⟩, af⟩ := H3.out.z1
  obtain ⟨⟨d0, d1, d2, d3⟩, df⟩ := H3.out.z2
  go_region
  go_wp2_with fail
  have Z := hid (H3.out.put (.int .i64 b.base) (.int .i64 b.epoch) (.int .i64 b.pid) (.int .i64 b.pidEpoch) (.int .i64 b.seq) (.slice ra b.recs.length rc) (.int .i64 (B2 : Int)) (.int .i64 (A2 : Int)) (.int .i64 (N2 : Int)) (.string (strOf (l.drop k))))
  have HKEEP := hid (HREC4.out.off (fun q hq => (put_off w W3 (.int .i64 b.base) (.int .i64 b.epoch) (.int .i64 b.pid) (.int .i64 b.pidEpoch) (.int .i64 b.seq) (.slice ra b.recs.length rc) (.int .i64 (B2 : Int)) (.int .i64 (A2 : Int)) (.int .i64 (N2 : Int)) (.string (strOf (l.drop k)))).block q (HREC.out.2 q hq)) (by rw [(put_off w W3 (.int .i64 b.base) (.int .i64 b.epoch) (.int .i64 b.pid) (.int .i64 b.pidEpoch) (.int .i64 b.seq) (.slice ra b.recs.length rc) (.int .i64 (B2 : Int)) (.int .i64 (A2 : Int)) (.int .i64 (N2 : Int)) (.string (strOf (l.drop k)))).size]; exact Nat.le_refl _))
  generalize ((((((((((W3.setCell ⟨w.heap.size + 1, 0, none⟩ (.int .i64 b.base)).setCell ⟨w.heap.size + 1, 1, none⟩ (.int .i64 b.epoch)).setCell ⟨w.heap.size + 1, 2, none⟩ (.int .i64 b.pid)).setCell ⟨w.heap.size + 1, 3, none⟩ (.int .i64 b.pidEpoch)).setCell ⟨w.heap.size + 1, 4, none⟩ (.int .i64 b.seq)).setCell ⟨w.heap.size + 1, 5, none⟩ (.slice ra b.recs.length rc)).setCell ⟨w.heap.size + 1 + 1, 0, none⟩ (.int .i64 (B2 : Int))).setCell ⟨w.heap.size + 1 + 1, 1, none⟩ (.int .i64 (A2 : Int))).setCell ⟨w.heap.size + 1 + 1, 2, none⟩ (.int .i64 (N2 : Int))).setCell ⟨w.heap.size + 1 + 1, 3, none⟩ (.string (strOf (l.drop k)))).drew = W9 at *
  obtain ⟨⟨e0, e1, e2, e3, e4, e5⟩, g0, g1, g2, g3⟩ := Z.out.told
  refine bodyPost_ret (v := .tuple #[.agg #[.int .i64 b.base, .int .i64 b.epoch, .int .i64 b.pid, .int .i64 b.pidEpoch, .int .i64 b.seq, .slice ra b.recs.length rc], .agg #[.int .i64 (B2 : Int), .int .i64 (A2 : Int), .int .i64 (N2 : Int), .string (strOf (l.drop k))], .bool true]) (by simp [results, Try.results42, go_sem, e0, e1, e2, e3, e4, e5, g0, g1, g2, g3]) rfl ⟨Z.out.below, (fun h => by (rw [HS.out] at h; cases h)), fun b' m' l' h => ?_⟩
  rw [HS.out] at h
  simp only [Option.some.injEq, Prod.mk.injEq] at h
  obtain ⟨rfl, rfl, rfl⟩ := h
  refine ⟨.slice ra b.recs.length rc, ?_, ?_, fun q hq => by have := HREC.out.2 q hq; omega⟩
  · rw [show (m.next b.recs.length k) = ⟨B2, A2, N2⟩ by unfold Mk.next; rw [HEQ.out.1, HEQ.out.2.1, HEQ.out.2.2]]
  · exact HKEEP.out

theorem read_facts (l : List UInt8) (h : (readBatchL l).2.2 = 0) : (readBatchL l).2.1 ≤ l.length ∧ (readBatchL l).2.1 ≤ 4096 ∧ 8 ≤ (readBatchL l).2.1 ∧ rightL (readBatchL l).1 = 0 ∧ (readBatchL l).1.recs.length ≤ 64 := by
  unfold readBatchL at h ⊢
  split at h
  · cases h
  · rename_i c1
    rw [if_neg c1]
    split at h
    · cases h
    · rename_i c2
      rw [if_neg c2]
      split at h
      · cases h
      · rename_i c3
        rw [if_neg c3]
        split at h
        · cases h
        · rename_i c4
          rw [if_neg c4]
          split at h
          · cases h
          · rename_i c5
            rw [if_neg c5]
            simp only
            have hr : rightL (bodyS ((l.drop 8).take (fourN l))).1 = 0 := by
              by_cases hr : rightL (bodyS ((l.drop 8).take (fourN l))).1 = 0
              · exact hr
              · exact absurd (.inr hr) c5
            exact ⟨by omega, by omega, by omega, hr, (rightL_ok hr).2.2.2.1⟩
theorem step_any (m : Mk) (hm : m.base ≤ 1000000000 ∧ m.at_ ≤ 100000000 ∧ m.nth ≤ 4096) (l : List UInt8) (hl : l.length ≤ 100000000) (w : World) :
    Calls Try.prog 42 #[.agg #[.int .i64 (m.base : Int), .int .i64 (m.at_ : Int), .int .i64 (m.nth : Int), .string (strOf l)]] w fun e w' => StepPost m l w e w' := by
  by_cases hE : (readBatchL l).2.2 = 0
  · obtain ⟨h1, h2, _, _, h5⟩ := read_facts l hE
    by_cases hB : (readBatchL l).1.base = (m.base : Int)
    · by_cases hO : 1000000000 < m.base + (readBatchL l).1.recs.length ∨ 4096 < m.nth + 1
      · exact step_no3 m hm l hl w hE hB h1 h2 h5 hO
      · exact step_yes m hm l hl w hE hB h1 h2 h5 hO
    · exact step_no2 m hm l hl w hE hB
  · exact step_no1 m hm l hl w hE
end Go.Proofs.Ytlgaianlkbaedaa

