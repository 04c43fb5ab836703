/- Append. -/
import Derived.Test.YtlgaianlkbaedaaH20
namespace Go.Proofs.Ytlgaianlkbaedaa
open Go.RowKit Go.Maps Go.Sort
set_option maxRecDepth 100000
set_option linter.unusedSimpArgs false
set_option linter.unusedVariables false

set_option maxHeartbeats 3200000 in
theorem sapp_no1 {w : World} {B q a base name m ix size fs} (h : SD w B q a base name m ix size fs) (hn : name.size ≤ maxLen) (b : Bat) (ra : Option Addr) (rc : Nat) (hr : Recs w (.slice ra b.recs.length rc) b.recs) (hi : b.ints) (hR : rightL b ≠ 0) :
    Calls Try.prog 14 #[.pointer (some ⟨q, 0, none⟩), .agg #[.int .i64 b.base, .int .i64 b.epoch, .int .i64 b.pid, .int .i64 b.pidEpoch, .int .i64 b.seq, .slice ra b.recs.length rc]] w fun e w' => e = .returned (.int .i64 (rightL b)) ∧ Below w.heap.size w w' := by
  have H30 : Hid (∀ W, Below w.heap.size w W → Calls Try.prog 30 #[.agg #[.int .i64 b.base, .int .i64 b.epoch, .int .i64 b.pid, .int .i64 b.pidEpoch, .int .i64 b.seq, .slice ra b.recs.length rc]] W fun e w' => e = .returned (.tuple #[.string (strOf (batchL b).1), .int .i64 (batchL b).2]) ∧ Below w.heap.size w w') := fun W hb =>
    (batch_any b ra rc (hr.under hb) hi).mono fun e w' ⟨e1, e2⟩ => ⟨e1, hb.trans (e2.mono hb.size)⟩
  have HF : batchL b = ([], rightL b) := by unfold batchL; rw [if_neg hR]
  rw [HF] at H30
  have hne : (rightL b != 0) = true := by simp [hR]
  clear h hr
  generalize rightL b = E at *
  go_enter Try.func14, Try.ntmps14
  go_wp2_with fail
  refine (H30.out _ (by first | exact Below.refl _ _ | exact (Below.refl _ _).alloc (Nat.le_refl _) _)).mono ?_
  rintro e w1 ⟨rfl, hb1⟩
  go_wp2_with fail
  go_ret
  exact ⟨rfl, hb1⟩

theorem three_keep (W : World) (b q : Nat) (u0 u1 u2 : Value) (h : q ≠ b) : (((W.setCell ⟨b, 0, none⟩ u0).setCell ⟨b, 1, none⟩ u1).setCell ⟨b, 2, none⟩ u2).heap[q]? = W.heap[q]? := by
  rw [Below.heap_setCell _ ⟨b, 2, none⟩ _ q h, Below.heap_setCell _ ⟨b, 1, none⟩ _ q h, Below.heap_setCell _ ⟨b, 0, none⟩ _ q h]
/-- The end's cells. -/
theorem SD.cs {w W : World} {B q a base name m ix size fs} (h : SD w B q a base name m ix size fs) (hb : Below w.heap.size w W) : W.cell? ⟨q, 3, none⟩ = some (.int .i64 (m.base : Int)) ∧ W.cell? ⟨q, 4, none⟩ = some (.int .i64 (m.at_ : Int)) ∧ W.cell? ⟨q, 5, none⟩ = some (.int .i64 (m.nth : Int)) := by
  obtain ⟨U, S, v, h1, h2, h3, h4⟩ := h
  obtain ⟨k0, k1, k2, k3, k4, k5, k6⟩ := (h1.under hb).c
  exact ⟨k3, k4, k5⟩
set_option maxHeartbeats 3200000 in
theorem sapp_no2 {w : World} {B q a base name m ix size fs} (h : SD w B q a base name m ix size fs) (hm : m.base ≤ 1000000000 ∧ m.at_ ≤ 100000000 ∧ m.nth ≤ 4096) (b : Bat) (ra : Option Addr) (rc : Nat) (hr : Recs w (.slice ra b.recs.length rc) b.recs) (hi : b.ints) (hR : rightL b = 0) (hO : b.base ≠ (m.base : Int)) :
    Calls Try.prog 14 #[.pointer (some ⟨q, 0, none⟩), .agg #[.int .i64 b.base, .int .i64 b.epoch, .int .i64 b.pid, .int .i64 b.pidEpoch, .int .i64 b.seq, .slice ra b.recs.length rc]] w fun e w' => e = .returned (.int .i64 11) ∧ Below w.heap.size w w' := by
  have hO1 : m.base + b.recs.length ≤ m.base + b.recs.length := Nat.le_refl _
  have hO2 : m.nth + 1 ≤ m.nth + 1 := Nat.le_refl _
  have hO' : (b.base != (m.base : Int)) = true := by simpa using hO
  clear hO
  obtain ⟨hr1, hr2, hr3⟩ := right_facts hR
  have H30 : Hid (∀ W, Below w.heap.size w W → Calls Try.prog 30 #[.agg #[.int .i64 b.base, .int .i64 b.epoch, .int .i64 b.pid, .int .i64 b.pidEpoch, .int .i64 b.seq, .slice ra b.recs.length rc]] W fun e w' => e = .returned (.tuple #[.string (strOf (batchL b).1), .int .i64 0]) ∧ Below W.heap.size W w') := fun W hb =>
    (batch_any b ra rc (hr.under hb) hi).mono fun e w' ⟨e1, e2⟩ => ⟨by rw [e1]; unfold batchL; rw [if_pos hR], e2⟩
  have HX0 := hid (Boxed.laid w (.cells #[.int .i64 b.base, .int .i64 b.epoch, .int .i64 b.pid, .int .i64 b.pidEpoch, .int .i64 b.seq, .slice ra b.recs.length rc] 34))
  have hLen : (batchL b).1.length ≤ 4096 := by unfold batchL; rw [if_pos hR]; simp [fourL]; omega
  have hqB : q < w.heap.size := by obtain ⟨U, S, v, h1, h2, h3, h4⟩ := h; exact h1.below q h1.self
  have HSD := hid h
  clear hr h
  generalize (batchL b).1 = L at *
  have HBe := hid (fun W => behind_any m ⟨by omega, by omega, by omega⟩ b.base b.epoch b.pid b.pidEpoch b.seq ra b.recs.length rc (by omega) L.length (by omega) W)
  obtain ⟨B2, hB2⟩ : ∃ B2, B2 = m.base + b.recs.length := ⟨_, rfl⟩
  obtain ⟨A2, hA2⟩ : ∃ A2, A2 = m.at_ + L.length := ⟨_, rfl⟩
  obtain ⟨N2, hN2⟩ : ∃ N2, N2 = m.nth + 1 := ⟨_, rfl⟩
  rw [← hB2, ← hA2, ← hN2] at HBe
  have HEQ := hid (And.intro hB2 (And.intro hA2 hN2))
  rw [← hB2] at hO1
  rw [← hN2] at hO2
  clear hB2 hA2 hN2
  have hsz := strOf_size L
  go_enter Try.func14, Try.ntmps14
  go_wp2_with fail
  refine (H30.out _ HX0.out.below).mono ?_
  rintro e w1 ⟨rfl, hb1⟩
  have HX1 := hid (HX0.out.next hb1)
  clear hb1
  have hlt1 := HX1.out.lt
  have hq1 : ¬ q = w1.heap.size := by omega
  have hq2 : ¬ w.heap.size = w1.heap.size := by omega
  have hq1' : ¬ w1.heap.size = q := by omega
  have hq2' : ¬ w1.heap.size = w.heap.size := by omega
  have HS1 := hid (HSD.out.cs HX1.out.below)
  obtain ⟨k3, k4, k5⟩ := HS1.out
  obtain ⟨c10, c11, c12, c13, c14, c15⟩ := six HX1.out
  go_wp2_with fail
  go_region_held3 (fun w' => w'.cell? ⟨q, 3, none⟩ = some (.int .i64 (m.base : Int)) ∧ w'.cell? ⟨q, 4, none⟩ = some (.int .i64 (m.at_ : Int)) ∧ w'.cell? ⟨q, 5, none⟩ = some (.int .i64 (m.nth : Int)) ∧ w'.cell? ⟨w.heap.size, 0, none⟩ = some (.int .i64 b.base) ∧ w'.cell? ⟨w.heap.size, 1, none⟩ = some (.int .i64 b.epoch) ∧ w'.cell? ⟨w.heap.size, 2, none⟩ = some (.int .i64 b.pid) ∧ w'.cell? ⟨w.heap.size, 3, none⟩ = some (.int .i64 b.pidEpoch) ∧ w'.cell? ⟨w.heap.size, 4, none⟩ = some (.int .i64 b.seq) ∧ w'.cell? ⟨w.heap.size, 5, none⟩ = some (.slice ra b.recs.length rc)) (go_keep)
    (first
    | (go_at_call 31; refine (HBe.out _).mono ?_; rintro e w2 ⟨rfl, hb2⟩; have HX2 : Hid (Boxed w w2 (.cells #[.int .i64 b.base, .int .i64 b.epoch, .int .i64 b.pid, .int .i64 b.pidEpoch, .int .i64 b.seq, .slice ra b.recs.length rc] 34)) := (by first | exact (HX1.out.next (Below.refl _ _).drew).next hb2 | exact ((HX1.out.next ((Below.refl _ _).alloc (Nat.le_refl _) _)).next (Below.refl _ _).drew).next hb2); have HS2 := hid (HSD.out.cs HX2.out.below); obtain ⟨m3, m4, m5⟩ := HS2.out; obtain ⟨d0, d1, d2, d3, d4, d5⟩ := six HX2.out; have hlt2 := HX2.out.lt; have hq3 : ¬ q = w2.heap.size := (by omega); have hq4 : ¬ w.heap.size = w2.heap.size := (by omega); have hq3' : ¬ w2.heap.size = q := (by omega); have hq4' : ¬ w2.heap.size = w.heap.size := (by omega); try (have hz := (hb2.block w1.heap.size (by simp)).trans (heap_alloc_new w1 (.cells #[.int .i64 0, .int .i64 0, .int .i64 0] 61)); have z0 := cell_at hz (j := 0) rfl; have z1 := cell_at hz (j := 1) rfl; have z2 := cell_at hz (j := 2) rfl; have f0 := frozen_blk hz 0; have f1 := frozen_blk hz 1; have f2 := frozen_blk hz 2; have HZ := hid hz; clear hz); clear hb2)
    | fail)
  all_goals go_wp2_with fail
  all_goals
    first
    | (have HX3 : Hid (Boxed w (((w2.setCell ⟨w1.heap.size, 0, none⟩ (.int .i64 (B2 : Int))).setCell ⟨w1.heap.size, 1, none⟩ (.int .i64 (A2 : Int))).setCell ⟨w1.heap.size, 2, none⟩ (.int .i64 (N2 : Int))) (.cells #[.int .i64 b.base, .int .i64 b.epoch, .int .i64 b.pid, .int .i64 b.pidEpoch, .int .i64 b.seq, .slice ra b.recs.length rc] 34)) := ⟨((HX2.out.below.setCell (Nat.le_of_lt hlt1) _).setCell (Nat.le_of_lt hlt1) _).setCell (Nat.le_of_lt hlt1) _, (three_keep w2 w1.heap.size w.heap.size _ _ _ hq2).trans HX2.out.box⟩
       have HZ3 : Hid ((((w2.setCell ⟨w1.heap.size, 0, none⟩ (.int .i64 (B2 : Int))).setCell ⟨w1.heap.size, 1, none⟩ (.int .i64 (A2 : Int))).setCell ⟨w1.heap.size, 2, none⟩ (.int .i64 (N2 : Int))).heap[w1.heap.size]? = some (.cells #[.int .i64 (B2 : Int), .int .i64 (A2 : Int), .int .i64 (N2 : Int)] 61)) := set_box (set_box (set_box HZ.out))
       have hp : w.heap.size < w1.heap.size := hlt1
       clear m3 m4 m5 d0 d1 d2 d3 d4 d5 HS2 HX2 hq3 hq4 hq3' hq4' hlt2 z0 z1 z2 f0 f1 f2 HZ
       generalize ((w2.setCell ⟨w1.heap.size, 0, none⟩ (.int .i64 (B2 : Int))).setCell ⟨w1.heap.size, 1, none⟩ (.int .i64 (A2 : Int))).setCell ⟨w1.heap.size, 2, none⟩ (.int .i64 (N2 : Int)) = W3 at *)
    | (have HX3 : Hid (Boxed w (w2.alloc (.cells #[.int .i64 (B2 : Int), .int .i64 (A2 : Int), .int .i64 (N2 : Int)] 61)) (.cells #[.int .i64 b.base, .int .i64 b.epoch, .int .i64 b.pid, .int .i64 b.pidEpoch, .int .i64 b.seq, .slice ra b.recs.length rc] 34)) := HX2.out.next ((Below.refl _ _).alloc (Nat.le_refl _) _)
       have HZ3 := hid (heap_alloc_new w2 (.cells #[.int .i64 (B2 : Int), .int .i64 (A2 : Int), .int .i64 (N2 : Int)] 61))
       have hp : w.heap.size < w2.heap.size := hlt2
       clear m3 m4 m5 d0 d1 d2 d3 d4 d5 HS2 HX2 hq3 hq4 hq3' hq4' hlt2
       generalize w2.heap.size = p at *
       generalize w2.alloc (.cells #[.int .i64 (B2 : Int), .int .i64 (A2 : Int), .int .i64 (N2 : Int)] 61) = W3 at *)
  all_goals
    clear k3 k4 k5 HS1 c10 c11 c12 c13 c14 c15 hq1 hq2 hq1' hq2'
    have HS3 := hid (HSD.out.cs HX3.out.below)
    obtain ⟨k3, k4, k5⟩ := HS3.out
    obtain ⟨c10, c11, c12, c13, c14, c15⟩ := six HX3.out
    have z0 := cell_at HZ3.out (j := 0) rfl
    have z1 := cell_at HZ3.out (j := 1) rfl
    have z2 := cell_at HZ3.out (j := 2) rfl
    go_quiet (fail)
    go_wp2_with fail
    go_ret
    exact ⟨rfl, below_drewN HX3.out.below _⟩
set_option maxHeartbeats 3200000 in
theorem sapp_no3 {w : World} {B q a base name m ix size fs} (h : SD w B q a base name m ix size fs) (hm : m.base ≤ 1000000000 ∧ m.at_ ≤ 100000000 ∧ m.nth ≤ 4096) (b : Bat) (ra : Option Addr) (rc : Nat) (hr : Recs w (.slice ra b.recs.length rc) b.recs) (hi : b.ints) (hR : rightL b = 0) (hO : b.base = (m.base : Int)) (hO1 : 1000000000 < m.base + b.recs.length) :
    Calls Try.prog 14 #[.pointer (some ⟨q, 0, none⟩), .agg #[.int .i64 b.base, .int .i64 b.epoch, .int .i64 b.pid, .int .i64 b.pidEpoch, .int .i64 b.seq, .slice ra b.recs.length rc]] w fun e w' => e = .returned (.int .i64 20) ∧ Below w.heap.size w w' := by
  have hO2 : m.nth + 1 ≤ m.nth + 1 := Nat.le_refl _
  have hO' : (b.base != (m.base : Int)) = false := by simpa using hO
  clear hO
  obtain ⟨hr1, hr2, hr3⟩ := right_facts hR
  have H30 : Hid (∀ W, Below w.heap.size w W → Calls Try.prog 30 #[.agg #[.int .i64 b.base, .int .i64 b.epoch, .int .i64 b.pid, .int .i64 b.pidEpoch, .int .i64 b.seq, .slice ra b.recs.length rc]] W fun e w' => e = .returned (.tuple #[.string (strOf (batchL b).1), .int .i64 0]) ∧ Below W.heap.size W w') := fun W hb =>
    (batch_any b ra rc (hr.under hb) hi).mono fun e w' ⟨e1, e2⟩ => ⟨by rw [e1]; unfold batchL; rw [if_pos hR], e2⟩
  have HX0 := hid (Boxed.laid w (.cells #[.int .i64 b.base, .int .i64 b.epoch, .int .i64 b.pid, .int .i64 b.pidEpoch, .int .i64 b.seq, .slice ra b.recs.length rc] 34))
  have hLen : (batchL b).1.length ≤ 4096 := by unfold batchL; rw [if_pos hR]; simp [fourL]; omega
  have hqB : q < w.heap.size := by obtain ⟨U, S, v, h1, h2, h3, h4⟩ := h; exact h1.below q h1.self
  have HSD := hid h
  clear hr h
  generalize (batchL b).1 = L at *
  have HBe := hid (fun W => behind_any m ⟨by omega, by omega, by omega⟩ b.base b.epoch b.pid b.pidEpoch b.seq ra b.recs.length rc (by omega) L.length (by omega) W)
  obtain ⟨B2, hB2⟩ : ∃ B2, B2 = m.base + b.recs.length := ⟨_, rfl⟩
  obtain ⟨A2, hA2⟩ : ∃ A2, A2 = m.at_ + L.length := ⟨_, rfl⟩
  obtain ⟨N2, hN2⟩ : ∃ N2, N2 = m.nth + 1 := ⟨_, rfl⟩
  rw [← hB2, ← hA2, ← hN2] at HBe
  have HEQ := hid (And.intro hB2 (And.intro hA2 hN2))
  rw [← hB2] at hO1
  rw [← hN2] at hO2
  clear hB2 hA2 hN2
  have hsz := strOf_size L
  go_enter Try.func14, Try.ntmps14
  go_wp2_with fail
  refine (H30.out _ HX0.out.below).mono ?_
  rintro e w1 ⟨rfl, hb1⟩
  have HX1 := hid (HX0.out.next hb1)
  clear hb1
  have hlt1 := HX1.out.lt
  have hq1 : ¬ q = w1.heap.size := by omega
  have hq2 : ¬ w.heap.size = w1.heap.size := by omega
  have hq1' : ¬ w1.heap.size = q := by omega
  have hq2' : ¬ w1.heap.size = w.heap.size := by omega
  have HS1 := hid (HSD.out.cs HX1.out.below)
  obtain ⟨k3, k4, k5⟩ := HS1.out
  obtain ⟨c10, c11, c12, c13, c14, c15⟩ := six HX1.out
  go_wp2_with fail
  go_region_held3 (fun w' => w'.cell? ⟨q, 3, none⟩ = some (.int .i64 (m.base : Int)) ∧ w'.cell? ⟨q, 4, none⟩ = some (.int .i64 (m.at_ : Int)) ∧ w'.cell? ⟨q, 5, none⟩ = some (.int .i64 (m.nth : Int)) ∧ w'.cell? ⟨w.heap.size, 0, none⟩ = some (.int .i64 b.base) ∧ w'.cell? ⟨w.heap.size, 1, none⟩ = some (.int .i64 b.epoch) ∧ w'.cell? ⟨w.heap.size, 2, none⟩ = some (.int .i64 b.pid) ∧ w'.cell? ⟨w.heap.size, 3, none⟩ = some (.int .i64 b.pidEpoch) ∧ w'.cell? ⟨w.heap.size, 4, none⟩ = some (.int .i64 b.seq) ∧ w'.cell? ⟨w.heap.size, 5, none⟩ = some (.slice ra b.recs.length rc)) (go_keep)
    (first
    | (go_at_call 31; refine (HBe.out _).mono ?_; rintro e w2 ⟨rfl, hb2⟩; have HX2 : Hid (Boxed w w2 (.cells #[.int .i64 b.base, .int .i64 b.epoch, .int .i64 b.pid, .int .i64 b.pidEpoch, .int .i64 b.seq, .slice ra b.recs.length rc] 34)) := (by first | exact (HX1.out.next (Below.refl _ _).drew).next hb2 | exact ((HX1.out.next ((Below.refl _ _).alloc (Nat.le_refl _) _)).next (Below.refl _ _).drew).next hb2); have HS2 := hid (HSD.out.cs HX2.out.below); obtain ⟨m3, m4, m5⟩ := HS2.out; obtain ⟨d0, d1, d2, d3, d4, d5⟩ := six HX2.out; have hlt2 := HX2.out.lt; have hq3 : ¬ q = w2.heap.size := (by omega); have hq4 : ¬ w.heap.size = w2.heap.size := (by omega); have hq3' : ¬ w2.heap.size = q := (by omega); have hq4' : ¬ w2.heap.size = w.heap.size := (by omega); try (have hz := (hb2.block w1.heap.size (by simp)).trans (heap_alloc_new w1 (.cells #[.int .i64 0, .int .i64 0, .int .i64 0] 61)); have z0 := cell_at hz (j := 0) rfl; have z1 := cell_at hz (j := 1) rfl; have z2 := cell_at hz (j := 2) rfl; have f0 := frozen_blk hz 0; have f1 := frozen_blk hz 1; have f2 := frozen_blk hz 2; have HZ := hid hz; clear hz); clear hb2)
    | fail)
  all_goals go_wp2_with fail
  all_goals
    first
    | (have HX3 : Hid (Boxed w (((w2.setCell ⟨w1.heap.size, 0, none⟩ (.int .i64 (B2 : Int))).setCell ⟨w1.heap.size, 1, none⟩ (.int .i64 (A2 : Int))).setCell ⟨w1.heap.size, 2, none⟩ (.int .i64 (N2 : Int))) (.cells #[.int .i64 b.base, .int .i64 b.epoch, .int .i64 b.pid, .int .i64 b.pidEpoch, .int .i64 b.seq, .slice ra b.recs.length rc] 34)) := ⟨((HX2.out.below.setCell (Nat.le_of_lt hlt1) _).setCell (Nat.le_of_lt hlt1) _).setCell (Nat.le_of_lt hlt1) _, (three_keep w2 w1.heap.size w.heap.size _ _ _ hq2).trans HX2.out.box⟩
       have HZ3 : Hid ((((w2.setCell ⟨w1.heap.size, 0, none⟩ (.int .i64 (B2 : Int))).setCell ⟨w1.heap.size, 1, none⟩ (.int .i64 (A2 : Int))).setCell ⟨w1.heap.size, 2, none⟩ (.int .i64 (N2 : Int))).heap[w1.heap.size]? = some (.cells #[.int .i64 (B2 : Int), .int .i64 (A2 : Int), .int .i64 (N2 : Int)] 61)) := set_box (set_box (set_box HZ.out))
       have hp : w.heap.size < w1.heap.size := hlt1
       clear m3 m4 m5 d0 d1 d2 d3 d4 d5 HS2 HX2 hq3 hq4 hq3' hq4' hlt2 z0 z1 z2 f0 f1 f2 HZ
       generalize ((w2.setCell ⟨w1.heap.size, 0, none⟩ (.int .i64 (B2 : Int))).setCell ⟨w1.heap.size, 1, none⟩ (.int .i64 (A2 : Int))).setCell ⟨w1.heap.size, 2, none⟩ (.int .i64 (N2 : Int)) = W3 at *)
    | (have HX3 : Hid (Boxed w (w2.alloc (.cells #[.int .i64 (B2 : Int), .int .i64 (A2 : Int), .int .i64 (N2 : Int)] 61)) (.cells #[.int .i64 b.base, .int .i64 b.epoch, .int .i64 b.pid, .int .i64 b.pidEpoch, .int .i64 b.seq, .slice ra b.recs.length rc] 34)) := HX2.out.next ((Below.refl _ _).alloc (Nat.le_refl _) _)
       have HZ3 := hid (heap_alloc_new w2 (.cells #[.int .i64 (B2 : Int), .int .i64 (A2 : Int), .int .i64 (N2 : Int)] 61))
       have hp : w.heap.size < w2.heap.size := hlt2
       clear m3 m4 m5 d0 d1 d2 d3 d4 d5 HS2 HX2 hq3 hq4 hq3' hq4' hlt2
       generalize w2.heap.size = p at *
       generalize w2.alloc (.cells #[.int .i64 (B2 : Int), .int .i64 (A2 : Int), .int .i64 (N2 : Int)] 61) = W3 at *)
  all_goals
    clear k3 k4 k5 HS1 c10 c11 c12 c13 c14 c15 hq1 hq2 hq1' hq2'
    have HS3 := hid (HSD.out.cs HX3.out.below)
    obtain ⟨k3, k4, k5⟩ := HS3.out
    obtain ⟨c10, c11, c12, c13, c14, c15⟩ := six HX3.out
    have z0 := cell_at HZ3.out (j := 0) rfl
    have z1 := cell_at HZ3.out (j := 1) rfl
    have z2 := cell_at HZ3.out (j := 2) rfl
    have hOi : (1000000000 : Int) < (B2 : Int) := by omega
    go_quiet (fail)
    go_wp2_with fail
    go_ret
    exact ⟨rfl, below_drewN HX3.out.below _⟩
set_option maxHeartbeats 3200000 in
theorem sapp_no4 {w : World} {B q a base name m ix size fs} (h : SD w B q a base name m ix size fs) (hm : m.base ≤ 1000000000 ∧ m.at_ ≤ 100000000 ∧ m.nth ≤ 4096) (b : Bat) (ra : Option Addr) (rc : Nat) (hr : Recs w (.slice ra b.recs.length rc) b.recs) (hi : b.ints) (hR : rightL b = 0) (hO : b.base = (m.base : Int)) (hO1 : ¬ 1000000000 < m.base + b.recs.length) (hO2 : 4096 < m.nth + 1) :
    Calls Try.prog 14 #[.pointer (some ⟨q, 0, none⟩), .agg #[.int .i64 b.base, .int .i64 b.epoch, .int .i64 b.pid, .int .i64 b.pidEpoch, .int .i64 b.seq, .slice ra b.recs.length rc]] w fun e w' => e = .returned (.int .i64 3) ∧ Below w.heap.size w w' := by
  have hO' : (b.base != (m.base : Int)) = false := by simpa using hO
  clear hO
  obtain ⟨hr1, hr2, hr3⟩ := right_facts hR
  have H30 : Hid (∀ W, Below w.heap.size w W → Calls Try.prog 30 #[.agg #[.int .i64 b.base, .int .i64 b.epoch, .int .i64 b.pid, .int .i64 b.pidEpoch, .int .i64 b.seq, .slice ra b.recs.length rc]] W fun e w' => e = .returned (.tuple #[.string (strOf (batchL b).1), .int .i64 0]) ∧ Below W.heap.size W w') := fun W hb =>
    (batch_any b ra rc (hr.under hb) hi).mono fun e w' ⟨e1, e2⟩ => ⟨by rw [e1]; unfold batchL; rw [if_pos hR], e2⟩
  have HX0 := hid (Boxed.laid w (.cells #[.int .i64 b.base, .int .i64 b.epoch, .int .i64 b.pid, .int .i64 b.pidEpoch, .int .i64 b.seq, .slice ra b.recs.length rc] 34))
  have hLen : (batchL b).1.length ≤ 4096 := by unfold batchL; rw [if_pos hR]; simp [fourL]; omega
  have hqB : q < w.heap.size := by obtain ⟨U, S, v, h1, h2, h3, h4⟩ := h; exact h1.below q h1.self
  have HSD := hid h
  clear hr h
  generalize (batchL b).1 = L at *
  have HBe := hid (fun W => behind_any m ⟨by omega, by omega, by omega⟩ b.base b.epoch b.pid b.pidEpoch b.seq ra b.recs.length rc (by omega) L.length (by omega) W)
  obtain ⟨B2, hB2⟩ : ∃ B2, B2 = m.base + b.recs.length := ⟨_, rfl⟩
  obtain ⟨A2, hA2⟩ : ∃ A2, A2 = m.at_ + L.length := ⟨_, rfl⟩
  obtain ⟨N2, hN2⟩ : ∃ N2, N2 = m.nth + 1 := ⟨_, rfl⟩
  rw [← hB2, ← hA2, ← hN2] at HBe
  have HEQ := hid (And.intro hB2 (And.intro hA2 hN2))
  rw [← hB2] at hO1
  rw [← hN2] at hO2
  clear hB2 hA2 hN2
  have hsz := strOf_size L
  go_enter Try.func14, Try.ntmps14
  go_wp2_with fail
  refine (H30.out _ HX0.out.below).mono ?_
  rintro e w1 ⟨rfl, hb1⟩
  have HX1 := hid (HX0.out.next hb1)
  clear hb1
  have hlt1 := HX1.out.lt
  have hq1 : ¬ q = w1.heap.size := by omega
  have hq2 : ¬ w.heap.size = w1.heap.size := by omega
  have hq1' : ¬ w1.heap.size = q := by omega
  have hq2' : ¬ w1.heap.size = w.heap.size := by omega
  have HS1 := hid (HSD.out.cs HX1.out.below)
  obtain ⟨k3, k4, k5⟩ := HS1.out
  obtain ⟨c10, c11, c12, c13, c14, c15⟩ := six HX1.out
  go_wp2_with fail
  go_region_held3 (fun w' => w'.cell? ⟨q, 3, none⟩ = some (.int .i64 (m.base : Int)) ∧ w'.cell? ⟨q, 4, none⟩ = some (.int .i64 (m.at_ : Int)) ∧ w'.cell? ⟨q, 5, none⟩ = some (.int .i64 (m.nth : Int)) ∧ w'.cell? ⟨w.heap.size, 0, none⟩ = some (.int .i64 b.base) ∧ w'.cell? ⟨w.heap.size, 1, none⟩ = some (.int .i64 b.epoch) ∧ w'.cell? ⟨w.heap.size, 2, none⟩ = some (.int .i64 b.pid) ∧ w'.cell? ⟨w.heap.size, 3, none⟩ = some (.int .i64 b.pidEpoch) ∧ w'.cell? ⟨w.heap.size, 4, none⟩ = some (.int .i64 b.seq) ∧ w'.cell? ⟨w.heap.size, 5, none⟩ = some (.slice ra b.recs.length rc)) (go_keep)
    (first
    | (go_at_call 31; refine (HBe.out _).mono ?_; rintro e w2 ⟨rfl, hb2⟩; have HX2 : Hid (Boxed w w2 (.cells #[.int .i64 b.base, .int .i64 b.epoch, .int .i64 b.pid, .int .i64 b.pidEpoch, .int .i64 b.seq, .slice ra b.recs.length rc] 34)) := (by first | exact (HX1.out.next (Below.refl _ _).drew).next hb2 | exact ((HX1.out.next ((Below.refl _ _).alloc (Nat.le_refl _) _)).next (Below.refl _ _).drew).next hb2); have HS2 := hid (HSD.out.cs HX2.out.below); obtain ⟨m3, m4, m5⟩ := HS2.out; obtain ⟨d0, d1, d2, d3, d4, d5⟩ := six HX2.out; have hlt2 := HX2.out.lt; have hq3 : ¬ q = w2.heap.size := (by omega); have hq4 : ¬ w.heap.size = w2.heap.size := (by omega); have hq3' : ¬ w2.heap.size = q := (by omega); have hq4' : ¬ w2.heap.size = w.heap.size := (by omega); try (have hz := (hb2.block w1.heap.size (by simp)).trans (heap_alloc_new w1 (.cells #[.int .i64 0, .int .i64 0, .int .i64 0] 61)); have z0 := cell_at hz (j := 0) rfl; have z1 := cell_at hz (j := 1) rfl; have z2 := cell_at hz (j := 2) rfl; have f0 := frozen_blk hz 0; have f1 := frozen_blk hz 1; have f2 := frozen_blk hz 2; have HZ := hid hz; clear hz); clear hb2)
    | fail)
  all_goals go_wp2_with fail
  all_goals
    first
    | (have HX3 : Hid (Boxed w (((w2.setCell ⟨w1.heap.size, 0, none⟩ (.int .i64 (B2 : Int))).setCell ⟨w1.heap.size, 1, none⟩ (.int .i64 (A2 : Int))).setCell ⟨w1.heap.size, 2, none⟩ (.int .i64 (N2 : Int))) (.cells #[.int .i64 b.base, .int .i64 b.epoch, .int .i64 b.pid, .int .i64 b.pidEpoch, .int .i64 b.seq, .slice ra b.recs.length rc] 34)) := ⟨((HX2.out.below.setCell (Nat.le_of_lt hlt1) _).setCell (Nat.le_of_lt hlt1) _).setCell (Nat.le_of_lt hlt1) _, (three_keep w2 w1.heap.size w.heap.size _ _ _ hq2).trans HX2.out.box⟩
       have HZ3 : Hid ((((w2.setCell ⟨w1.heap.size, 0, none⟩ (.int .i64 (B2 : Int))).setCell ⟨w1.heap.size, 1, none⟩ (.int .i64 (A2 : Int))).setCell ⟨w1.heap.size, 2, none⟩ (.int .i64 (N2 : Int))).heap[w1.heap.size]? = some (.cells #[.int .i64 (B2 : Int), .int .i64 (A2 : Int), .int .i64 (N2 : Int)] 61)) := set_box (set_box (set_box HZ.out))
       have hp : w.heap.size < w1.heap.size := hlt1
       clear m3 m4 m5 d0 d1 d2 d3 d4 d5 HS2 HX2 hq3 hq4 hq3' hq4' hlt2 z0 z1 z2 f0 f1 f2 HZ
       generalize ((w2.setCell ⟨w1.heap.size, 0, none⟩ (.int .i64 (B2 : Int))).setCell ⟨w1.heap.size, 1, none⟩ (.int .i64 (A2 : Int))).setCell ⟨w1.heap.size, 2, none⟩ (.int .i64 (N2 : Int)) = W3 at *)
    | (have HX3 : Hid (Boxed w (w2.alloc (.cells #[.int .i64 (B2 : Int), .int .i64 (A2 : Int), .int .i64 (N2 : Int)] 61)) (.cells #[.int .i64 b.base, .int .i64 b.epoch, .int .i64 b.pid, .int .i64 b.pidEpoch, .int .i64 b.seq, .slice ra b.recs.length rc] 34)) := HX2.out.next ((Below.refl _ _).alloc (Nat.le_refl _) _)
       have HZ3 := hid (heap_alloc_new w2 (.cells #[.int .i64 (B2 : Int), .int .i64 (A2 : Int), .int .i64 (N2 : Int)] 61))
       have hp : w.heap.size < w2.heap.size := hlt2
       clear m3 m4 m5 d0 d1 d2 d3 d4 d5 HS2 HX2 hq3 hq4 hq3' hq4' hlt2
       generalize w2.heap.size = p at *
       generalize w2.alloc (.cells #[.int .i64 (B2 : Int), .int .i64 (A2 : Int), .int .i64 (N2 : Int)] 61) = W3 at *)
  all_goals
    clear k3 k4 k5 HS1 c10 c11 c12 c13 c14 c15 hq1 hq2 hq1' hq2'
    have HS3 := hid (HSD.out.cs HX3.out.below)
    obtain ⟨k3, k4, k5⟩ := HS3.out
    obtain ⟨c10, c11, c12, c13, c14, c15⟩ := six HX3.out
    have z0 := cell_at HZ3.out (j := 0) rfl
    have z1 := cell_at HZ3.out (j := 1) rfl
    have z2 := cell_at HZ3.out (j := 2) rfl
    have hOi : ¬ (1000000000 : Int) < (B2 : Int) := by omega
    have hOj : (4096 : Int) < (N2 : Int) := by omega
    go_quiet (fail)
    go_wp2_with fail
    go_ret
    exact ⟨rfl, below_drewN HX3.out.below _⟩
end Go.Proofs.Ytlgaianlkbaedaa

