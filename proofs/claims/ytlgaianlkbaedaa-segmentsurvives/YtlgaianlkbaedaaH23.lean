/- Append, done. -/
import Derived.Test.YtlgaianlkbaedaaH22
namespace Go.Proofs.Ytlgaianlkbaedaa
open Go.RowKit Go.Maps Go.Sort
set_option maxRecDepth 100000
set_option linter.unusedSimpArgs false
set_option linter.unusedVariables false

set_option maxHeartbeats 6400000 in
theorem sapp_yes {w : World} {B q a base name m ix size fs} (h : SD w B q a base name m ix size fs) (hm : m.base ≤ 1000000000 ∧ m.at_ ≤ 100000000 ∧ m.nth ≤ 4096) (b : Bat) (ra : Option Addr) (rc : Nat) (hr : Recs w (.slice ra b.recs.length rc) b.recs) (hi : b.ints) (hR : rightL b = 0) (hO : b.base = (m.base : Int)) (hO1 : ¬ 1000000000 < m.base + b.recs.length) (hO2 : ¬ 4096 < m.nth + 1) (hn : name.size ≤ maxLen) (hlen : ix.length ≤ 5000) (hx : ∀ x ∈ ix, x.at_ ≤ 100000000) (hA : appE size fs name (strOf (batchL b).1) = 0) :
    Calls Try.prog 14 #[.pointer (some ⟨q, 0, none⟩), .agg #[.int .i64 b.base, .int .i64 b.epoch, .int .i64 b.pid, .int .i64 b.pidEpoch, .int .i64 b.seq, .slice ra b.recs.length rc]] w fun e w' => e = .returned (.int .i64 0) ∧ SDA B w w' q a base name (m.next b.recs.length (batchL b).1.length) (addL ix m) size (appL size fs name (strOf (batchL b).1)) := by
  have hO' : (b.base != (m.base : Int)) = false := by simpa using hO
  clear hO
  have hN : m.next b.recs.length (batchL b).1.length = ⟨m.base + b.recs.length, m.at_ + (batchL b).1.length, m.nth + 1⟩ := rfl
  rw [hN]
  clear hN
  obtain ⟨hr1, hr2, hr3⟩ := right_facts hR
  have H30 : Hid (∀ W, Below w.heap.size w W → Calls Try.prog 30 #[.agg #[.int .i64 b.base, .int .i64 b.epoch, .int .i64 b.pid, .int .i64 b.pidEpoch, .int .i64 b.seq, .slice ra b.recs.length rc]] W fun e w' => e = .returned (.tuple #[.string (strOf (batchL b).1), .int .i64 0]) ∧ Below W.heap.size W w') := fun W hb =>
    (batch_any b ra rc (hr.under hb) hi).mono fun e w' ⟨e1, e2⟩ => ⟨by rw [e1]; unfold batchL; rw [if_pos hR], e2⟩
  have HX0 := hid (Boxed.laid w (.cells #[.int .i64 b.base, .int .i64 b.epoch, .int .i64 b.pid, .int .i64 b.pidEpoch, .int .i64 b.seq, .slice ra b.recs.length rc] 34))
  have hLen : (batchL b).1.length ≤ 4096 := by unfold batchL; rw [if_pos hR]; simp [fourL]; omega
  have hqB : q < w.heap.size := by obtain ⟨U, S, v, h1, h2, h3, h4⟩ := h; exact h1.below q h1.self
  have HSD := hid h
  have H32 : Hid (∀ W, Below w.heap.size w W → Calls Try.prog 32 #[.pointer (some ⟨q, 0, none⟩)] W fun e w' => e = .returned (.pointer (some ⟨a, 0, none⟩)) ∧ w' = W) := fun W hb => h.disk hb
  have H25 : Hid (∀ W, Below w.heap.size w W → Calls Try.prog 25 #[.pointer (some ⟨q, 0, none⟩)] W fun e w' => e = .returned (.int .i64 ((abytes fs name.data.toList).length : Int)) ∧ Below W.heap.size W w') := fun W hb => sbytes_any (h.under hb) hn
  have H26 : Hid (∀ W, Below w.heap.size w W → Calls Try.prog 26 #[.pointer (some ⟨a, 0, none⟩), .string name, .string (strOf (batchL b).1)] W fun e w' => e = .returned (.int .i64 (appE size fs name (strOf (batchL b).1) : Int)) ∧ SDA B w w' q a base name m ix size (appL size fs name (strOf (batchL b).1)) ∧ w'.cell? ⟨q, 1, none⟩ = some (.string name) ∧ ∀ k, w.heap.size ≤ k → k < W.heap.size → w'.heap[k]? = W.heap[k]?) := fun W hb => h.app hb hn (by rw [strOf_size]; have := batchL_le b; unfold maxLen; omega)
  have HNM : Hid (∀ W, Below w.heap.size w W → W.cell? ⟨q, 1, none⟩ = some (.string name)) := fun W hb => h.name hb
  rw [hA] at H26
  clear hA
  clear hr h
  generalize (batchL b).1 = L at *
  have HBe := hid (fun W => behind_any m ⟨by omega, by omega, by omega⟩ b.base b.epoch b.pid b.pidEpoch b.seq ra b.recs.length rc (by omega) L.length (by omega) W)
  obtain ⟨B2, hB2⟩ : ∃ B2, B2 = m.base + b.recs.length := ⟨_, rfl⟩
  obtain ⟨A2, hA2⟩ : ∃ A2, A2 = m.at_ + L.length := ⟨_, rfl⟩
  obtain ⟨N2, hN2⟩ : ∃ N2, N2 = m.nth + 1 := ⟨_, rfl⟩
  rw [← hB2, ← hA2, ← hN2] at HBe
  have HEQ := hid (And.intro hB2 (And.intro hA2 hN2))
  rw [← hB2] at hO1
  rw [← hN2] at hO2
  clear hB2 hA2 hN2
  have hsz := strOf_size L
  rw [← HEQ.out.1, ← HEQ.out.2.1, ← HEQ.out.2.2]
  go_enter Try.func14, Try.ntmps14
  go_wp2_with fail
  refine (H30.out _ HX0.out.below).mono ?_
  rintro e w1 ⟨rfl, hb1⟩
  have HX1 := hid (HX0.out.next hb1)
  clear hb1
  have hlt1 := HX1.out.lt
  have hq1 : ¬ q = w1.heap.size := by omega
  have hq2 : ¬ w.heap.size = w1.heap.size := by omega
  have hq1' : ¬ w1.heap.size = q := by omega
  have hq2' : ¬ w1.heap.size = w.heap.size := by omega
  have HS1 := hid (HSD.out.cs HX1.out.below)
  obtain ⟨k3, k4, k5⟩ := HS1.out
  obtain ⟨c10, c11, c12, c13, c14, c15⟩ := six HX1.out
  go_wp2_with fail
  go_region_held3 (fun w' => w'.cell? ⟨q, 3, none⟩ = some (.int .i64 (m.base : Int)) ∧ w'.cell? ⟨q, 4, none⟩ = some (.int .i64 (m.at_ : Int)) ∧ w'.cell? ⟨q, 5, none⟩ = some (.int .i64 (m.nth : Int)) ∧ w'.cell? ⟨w.heap.size, 0, none⟩ = some (.int .i64 b.base) ∧ w'.cell? ⟨w.heap.size, 1, none⟩ = some (.int .i64 b.epoch) ∧ w'.cell? ⟨w.heap.size, 2, none⟩ = some (.int .i64 b.pid) ∧ w'.cell? ⟨w.heap.size, 3, none⟩ = some (.int .i64 b.pidEpoch) ∧ w'.cell? ⟨w.heap.size, 4, none⟩ = some (.int .i64 b.seq) ∧ w'.cell? ⟨w.heap.size, 5, none⟩ = some (.slice ra b.recs.length rc)) (go_keep)
    (first
    | (go_at_call 31; refine (HBe.out _).mono ?_; rintro e w2 ⟨rfl, hb2⟩; have HX2 : Hid (Boxed w w2 (.cells #[.int .i64 b.base, .int .i64 b.epoch, .int .i64 b.pid, .int .i64 b.pidEpoch, .int .i64 b.seq, .slice ra b.recs.length rc] 34)) := (by first | exact (HX1.out.next (Below.refl _ _).drew).next hb2 | exact ((HX1.out.next ((Below.refl _ _).alloc (Nat.le_refl _) _)).next (Below.refl _ _).drew).next hb2); have HS2 := hid (HSD.out.cs HX2.out.below); obtain ⟨m3, m4, m5⟩ := HS2.out; obtain ⟨d0, d1, d2, d3, d4, d5⟩ := six HX2.out; have hlt2 := HX2.out.lt; have hq3 : ¬ q = w2.heap.size := (by omega); have hq4 : ¬ w.heap.size = w2.heap.size := (by omega); have hq3' : ¬ w2.heap.size = q := (by omega); have hq4' : ¬ w2.heap.size = w.heap.size := (by omega); try (have hz := (hb2.block w1.heap.size (by simp)).trans (heap_alloc_new w1 (.cells #[.int .i64 0, .int .i64 0, .int .i64 0] 61)); have z0 := cell_at hz (j := 0) rfl; have z1 := cell_at hz (j := 1) rfl; have z2 := cell_at hz (j := 2) rfl; have f0 := frozen_blk hz 0; have f1 := frozen_blk hz 1; have f2 := frozen_blk hz 2; have HZ := hid hz; clear hz); clear hb2)
    | fail)
  all_goals go_wp2_with fail
  all_goals
    first
    | (have HX3 : Hid (Boxed w (((w2.setCell ⟨w1.heap.size, 0, none⟩ (.int .i64 (B2 : Int))).setCell ⟨w1.heap.size, 1, none⟩ (.int .i64 (A2 : Int))).setCell ⟨w1.heap.size, 2, none⟩ (.int .i64 (N2 : Int))) (.cells #[.int .i64 b.base, .int .i64 b.epoch, .int .i64 b.pid, .int .i64 b.pidEpoch, .int .i64 b.seq, .slice ra b.recs.length rc] 34)) := ⟨((HX2.out.below.setCell (Nat.le_of_lt hlt1) _).setCell (Nat.le_of_lt hlt1) _).setCell (Nat.le_of_lt hlt1) _, (three_keep w2 w1.heap.size w.heap.size _ _ _ hq2).trans HX2.out.box⟩
       have HZ3 : Hid ((((w2.setCell ⟨w1.heap.size, 0, none⟩ (.int .i64 (B2 : Int))).setCell ⟨w1.heap.size, 1, none⟩ (.int .i64 (A2 : Int))).setCell ⟨w1.heap.size, 2, none⟩ (.int .i64 (N2 : Int))).heap[w1.heap.size]? = some (.cells #[.int .i64 (B2 : Int), .int .i64 (A2 : Int), .int .i64 (N2 : Int)] 61)) := set_box (set_box (set_box HZ.out))
       have hp : w.heap.size < w1.heap.size := hlt1
       clear m3 m4 m5 d0 d1 d2 d3 d4 d5 HS2 HX2 hq3 hq4 hq3' hq4' hlt2 z0 z1 z2 f0 f1 f2 HZ
       generalize ((w2.setCell ⟨w1.heap.size, 0, none⟩ (.int .i64 (B2 : Int))).setCell ⟨w1.heap.size, 1, none⟩ (.int .i64 (A2 : Int))).setCell ⟨w1.heap.size, 2, none⟩ (.int .i64 (N2 : Int)) = W3 at *)
    | (have HX3 : Hid (Boxed w (w2.alloc (.cells #[.int .i64 (B2 : Int), .int .i64 (A2 : Int), .int .i64 (N2 : Int)] 61)) (.cells #[.int .i64 b.base, .int .i64 b.epoch, .int .i64 b.pid, .int .i64 b.pidEpoch, .int .i64 b.seq, .slice ra b.recs.length rc] 34)) := HX2.out.next ((Below.refl _ _).alloc (Nat.le_refl _) _)
       have HZ3 := hid (heap_alloc_new w2 (.cells #[.int .i64 (B2 : Int), .int .i64 (A2 : Int), .int .i64 (N2 : Int)] 61))
       have hp : w.heap.size < w2.heap.size := hlt2
       clear m3 m4 m5 d0 d1 d2 d3 d4 d5 HS2 HX2 hq3 hq4 hq3' hq4' hlt2
       generalize w2.heap.size = p at *
       generalize w2.alloc (.cells #[.int .i64 (B2 : Int), .int .i64 (A2 : Int), .int .i64 (N2 : Int)] 61) = W3 at *)
  all_goals
    clear k3 k4 k5 HS1 c10 c11 c12 c13 c14 c15 hq1 hq2 hq1' hq2'
    have HS3 := hid (HSD.out.cs HX3.out.below)
    obtain ⟨k3, k4, k5⟩ := HS3.out
    obtain ⟨c10, c11, c12, c13, c14, c15⟩ := six HX3.out
    have z0 := cell_at HZ3.out (j := 0) rfl
    have z1 := cell_at HZ3.out (j := 1) rfl
    have z2 := cell_at HZ3.out (j := 2) rfl
    have hOi : ¬ (1000000000 : Int) < (B2 : Int) := by omega
    have hOj : ¬ (4096 : Int) < (N2 : Int) := by omega
    go_quiet (fail)
    go_wp2_with fail
    refine (H25.out _ (below_drewN HX3.out.below _)).mono ?_
    rintro e w4 ⟨rfl, hb4⟩
    have HX4 := hid ((HX3.out.drewN _).next hb4)
    have hpl := (Array.getElem?_eq_some_iff.1 HZ3.out).1
    have HZ4 := hid ((hb4.block _ hpl).trans HZ3.out)
    have hp4 := Nat.lt_of_lt_of_le hpl hb4.size
    clear hb4
    have kn := HNM.out _ HX4.out.below
    go_wp2_with fail
    go_region_held3 (fun w' => w'.cell? ⟨q, 1, none⟩ = some (.string name)) (go_keep)
      (first
      | (go_at_call 32; refine (H32.out _ (by first | exact HX4.out.below | exact HX4.out.below.drew)).mono ?_; rintro e w0 ⟨rfl, rfl⟩)
      | (go_at_call 26; refine (H26.out _ (by first | exact HX4.out.below | exact HX4.out.below.drew | exact HX4.out.below.drew.drew)).mono ?_; rintro e w5 ⟨rfl, h5, kn5, hk5⟩; have HB5 := hid h5; have HZ5 := hid ((hk5 _ (Nat.le_of_lt hp) hp4).trans HZ4.out); clear h5 hk5)
      | fail)
    clear z0 z1 z2
    have z0 := cell_at HZ5.out (j := 0) rfl
    have z1 := cell_at HZ5.out (j := 1) rfl
    have z2 := cell_at HZ5.out (j := 2) rfl
    obtain ⟨B5, g1, g2, g3, g4⟩ := HB5.out
    have HG := hid (And.intro g2 (And.intro g3 g4))
    have HC : Hid (∀ W, Below w5.heap.size w5 W → Calls Try.prog 33 #[.pointer (some ⟨q, 0, none⟩), .agg #[.int .i64 (B2 : Int), .int .i64 (A2 : Int), .int .i64 (N2 : Int)]] W fun en w' => en = .returned (.tuple #[]) ∧ SDA B5 w5 w' q a base name ⟨B2, A2, N2⟩ (addL ix m) size (appL size fs name (strOf L))) := fun W hb => g1.add hb hlen ⟨hm.2.1, hx⟩ ⟨B2, A2, N2⟩
    clear g1 g2 g3 g4
    go_wp2_with fail
    refine (HC.out _ (by first | exact Below.refl _ _ | exact (Below.refl _ _).drew)).mono ?_
    rintro e w6 ⟨rfl, h6⟩
    have HB6 := hid h6
    clear h6
    go_wp2_with fail
    go_ret
    refine ⟨rfl, ?_⟩
    obtain ⟨B6, q1, q2, q3, q4⟩ := HB6.out
    have hs := HG.out.2.2.size
    refine ⟨B6, q1, fun x hx => ?_, fun x hx => q3 x (HG.out.2.1 x hx), HG.out.2.2.trans q4 HG.out.1⟩
    rcases q2 x hx with h | h
    · exact HG.out.1 x h
    · exact .inr (by omega)
end Go.Proofs.Ytlgaianlkbaedaa

