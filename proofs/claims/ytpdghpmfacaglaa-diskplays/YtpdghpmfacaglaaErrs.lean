/- DiskErrs, the walk: it answers true and turns nothing that was there. -/
import Derived.Test.YtpdghpmfacaglaaOne
namespace Go.Proofs.Ytpdghpmfacaglaa
open Go.RowKit Go.Maps Go.Sort
set_option maxRecDepth 100000
set_option linter.unusedSimpArgs false
set_option linter.unusedVariables false

theorem OpsAt.under {w w1 : World} {so : Option Addr} {ops : List OpV} (h : OpsAt w so ops) (hb : Below w.heap.size w w1) : OpsAt w1 so ops := by
  rcases h with h | ⟨b, off, e, hbw, hc⟩
  · exact .inl h
  · refine .inr ⟨b, off, e, Nat.lt_of_lt_of_le hbw hb.size, fun i hi => ⟨(hc i hi).1, ?_⟩⟩
    obtain ⟨q0, q1, q2, q3, q4⟩ := (hc i hi).2
    exact ⟨(hb.cell (p := ⟨b, _, none⟩) hbw).trans q0, (hb.cell (p := ⟨b, _, none⟩) hbw).trans q1, (hb.cell (p := ⟨b, _, none⟩) hbw).trans q2, (hb.cell (p := ⟨b, _, none⟩) hbw).trans q3, (hb.cell (p := ⟨b, _, none⟩) hbw).trans q4⟩

/-- A disk made by run, seen from an elder world. -/
theorem runOn {w0 w : World} {B : Nat} (hb : Below B w0 w) (hB : B ≤ w.heap.size) (n : Nat) (hn1 : 1 ≤ n) (hn2 : n ≤ 16777216) (so : Option Addr) (ops : List OpV) (cap : Nat) (hops : OpsAt w so ops) (hol : ops.length ≤ 9223372036854775807) (N : Int) (hN : N = n) :
    Calls Try.prog 24 #[.int .i64 N, .slice so ops.length cap] w fun e w' => e = .returned (.pointer (some ⟨w.heap.size, 0, none⟩)) ∧ ∃ S, On B w0 w' w.heap.size n (runL n (ops.take 100)) S ∧ (∀ k, S k → w.heap.size ≤ k) ∧ Below w.heap.size w w' := by
  subst hN
  refine (run_walk w n hn1 hn2 so ops cap hops hol).mono (fun e w' ⟨he, S, h1, h2, h3, h4⟩ => ⟨he, S, ⟨h1, fun k hk => Nat.le_trans hB (h2 k hk), hb.trans (h3.mono hB), Nat.le_trans hB h3.size⟩, h2, h3⟩)

/-- A copy beside its disk. -/
theorem cloneOn {B : Nat} {w0 w : World} {a size : Nat} {l : List AF} {S : Nat → Prop} (h : On B w0 w a size l S) :
    Calls Try.prog 14 #[.pointer (some ⟨a, 0, none⟩)] w fun e w' => e = .returned (.pointer (some ⟨w.heap.size, 0, none⟩)) ∧ On B w0 w' a size l S ∧ ∃ Sc, On B w0 w' w.heap.size size l Sc ∧ (∀ k, Sc k → w.heap.size ≤ k) ∧ Below w.heap.size w w' :=
  (cloneA h.1).mono (fun e w' ⟨he, Sc, hc, hS, hb⟩ => ⟨he, h.under hb, Sc, ⟨hc, fun k hk => Nat.le_trans h.2.2.2 (hS k hk), (h.under hb).2.2.1, (h.under hb).2.2.2⟩, hS, hb⟩)

theorem On.beside {B : Nat} {w0 w w' : World} {a b size size' : Nat} {l l' : List AF} {S T T' : Nat → Prop} (h : On B w0 w a size l S) (h' : On B w0 w' b size' l' T') (hk : Keeps T w w') (hd : ∀ k, S k → ¬ T k) : On B w0 w' a size l S :=
  ⟨h.1.beside hk hd, h.2.1, h'.2.2.1, h'.2.2.2⟩

set_option maxHeartbeats 3200000 in
theorem errs_walk (w : World) (c : Int) (so : Option Addr) (ops : List OpV) (cap : Nat) (kind : Int) (name b : ByteArray) (nn : Int) (ko : Option Addr) (kl kc : Nat) (hops : Hid (OpsAt w so ops)) (hol : ops.length ≤ 9223372036854775807)
    (hok : Hid (OpV.ok ⟨kind, name, b, nn, .slice ko kl kc⟩)) (r : Int) (n : Nat) (hr : Hid (1 + r = (n : Int))) (hr0 : 0 ≤ r) (hr1 : r < 2000)
    (hpick : Hid (∀ W, Calls Try.prog 17 #[.int .i64 c, .int .i64 2000] W fun e w' => e = .returned (.int .i64 r) ∧ w' = W)) :
    Calls Try.prog 7 #[.int .i64 c, .slice so ops.length cap, .agg #[.int .i64 kind, .string name, .string b, .int .i64 nn, .slice ko kl kc]] w fun e w' => e = .returned (.bool true) ∧ Below w.heap.size w w' := by
  have hn1 : 1 ≤ n := by have := hr.out; omega
  have hn2 : n ≤ 2000 := by have := hr.out; omega
  have hrn : 1 + r = (n : Int) := hr.out
  obtain ⟨W0, hW0⟩ : ∃ W0, W0 = w.alloc (.cells #[.int .i64 kind, .string name, .string b, .int .i64 nn, .slice ko kl kc] 33) := ⟨_, rfl⟩
  have hB0 : Below w.heap.size w W0 := by rw [hW0]; exact (Below.refl _ _).alloc (Nat.le_refl _) _
  have hs0 : W0.heap.size = w.heap.size + 1 := by rw [hW0]; simp
  have HSh : Hid (Calls Try.prog 9 #[] (w.alloc (.cells #[.int .i64 kind, .string name, .string b, .int .i64 nn, .slice ko kl kc] 33)) fun e w' => e = .returned (.bool true) ∧ Below W0.heap.size W0 w') := by rw [← hW0]; exact shown_any W0
  have HBox : Hid (∀ W, Below W0.heap.size W0 W → W.cell? ⟨w.heap.size, 0, none⟩ = some (.int .i64 kind) ∧ W.cell? ⟨w.heap.size, 1, none⟩ = some (.string name) ∧ W.cell? ⟨w.heap.size, 2, none⟩ = some (.string b) ∧ W.cell? ⟨w.heap.size, 3, none⟩ = some (.int .i64 nn) ∧ W.cell? ⟨w.heap.size, 4, none⟩ = some (.slice ko kl kc)) := by
    intro W hW
    have e : W.heap[w.heap.size]? = some (.cells #[.int .i64 kind, .string name, .string b, .int .i64 nn, .slice ko kl kc] 33) := (hW.block w.heap.size (by omega)).trans (by rw [hW0]; exact heap_alloc_new w _)
    simp [World.cell?, e]
  have HOps : Hid (∀ W, Below W0.heap.size W0 W → OpsAt W so ops) := fun W hW => hops.out.under (hB0.trans (hW.mono (by omega)))
  have HEnd : Hid (∀ W, Below W0.heap.size W0 W → Below w.heap.size w W) := fun W hW => hB0.trans (hW.mono (by omega))
  have hpk := pickI_range kind 8 (by decide)
  have HPk : Hid (∀ W, Calls Try.prog 17 #[.int .i64 kind, .int .i64 8] W fun e w' => e = .returned (.int .i64 (pickI kind 8)) ∧ w' = W) := fun W => pick_any kind 8 W hok.out.1.1 hok.out.1.2 (by decide) (by decide)
  obtain ⟨E, hE⟩ : ∃ E, E = opE n (runL n (ops.take 100)) ⟨kind, name, b, nn, .slice ko kl kc⟩ := ⟨_, rfl⟩
  have HCall : Hid (∀ W S a, DiskA W S a n (runL n (ops.take 100)) → Calls Try.prog 26 #[.pointer (some ⟨a, 0, none⟩), .agg #[.int .i64 kind, .string name, .string b, .int .i64 nn, .slice ko kl kc]] W fun e w' => e = .returned (.int .i64 (E : Int)) ∧ AfterA S W w' a n (opL n (runL n (ops.take 100)) ⟨kind, name, b, nn, .slice ko kl kc⟩)) := fun W S a hd => by
    have := callsA hd ⟨kind, name, b, nn, .slice ko kl kc⟩ hok.out
    rw [← hE] at this
    exact this
  have HSame : Hid (E ≠ 0 → ¬ (E = 7 ∧ pickI kind 8 < 3) → opL n (runL n (ops.take 100)) ⟨kind, name, b, nn, .slice ko kl kc⟩ = runL n (ops.take 100)) := fun h1 h2 => by
    refine opL_same n _ _ (by rw [← hE]; exact h1) (fun ⟨h3, h4⟩ => h2 ⟨by rw [hE]; exact h3, ?_⟩)
    simp only at h4
    omega
  have HRun : Hid (∀ W, Below W0.heap.size W0 W → Calls Try.prog 24 #[.int .i64 (n : Int), .slice so ops.length cap] W fun e w' => e = .returned (.pointer (some ⟨W.heap.size, 0, none⟩)) ∧ ∃ S, On W0.heap.size W0 w' W.heap.size n (runL n (ops.take 100)) S ∧ (∀ k, S k → W.heap.size ≤ k) ∧ Below W.heap.size W w') := fun W hW =>
    runOn hW hW.size n hn1 (by omega) so ops cap (HOps.out W hW) hol _ rfl
  generalize opL n (runL n (ops.take 100)) ⟨kind, name, b, nn, .slice ko kl kc⟩ = l2 at *
  generalize runL n (ops.take 100) = l1 at *
  clear hE
  clear hW0 hs0 hB0
  by_cases h0 : E = 0
  · have t0 : (((E : Nat) : Int) == 0) = true := beq_iff_eq.2 (by omega)
    clear h0
    go_enter Try.func7, Try.ntmps7
    go_wp2_with (go_at_call 9; refine HSh.out.mono ?_; rintro e w1 ⟨rfl, hb1⟩)
    go_wp2_with (go_at_call 17; refine (hpick.out _).mono ?_; rintro e w2 ⟨rfl, rfl⟩)
    go_wp2_with (go_at_call 24; refine (HRun.out _ hb1).mono ?_; rintro e w3 ⟨rfl, S3, hd3, hS3, hb3⟩; clear hb3 hS3)
    go_wp2_with (go_at_call 14; refine (cloneOn hd3).mono ?_; rintro e w4 ⟨rfl, hd4, Sc, hc4, hSc, hb4⟩; obtain ⟨p0, p1, p2, p3, p4⟩ := HBox.out _ hd4.2.2.1; have hdis : ∀ k, Sc k → ¬ S3 k := fun k hk hs => by have := hd3.1.below k hs; have := hSc k hk; omega)
    go_wp2_with (go_at_call 26; refine (HCall.out _ _ _ hd4.1).mono ?_; rintro e w5 ⟨rfl, hA⟩; obtain ⟨S5, hd5, g1, g3⟩ := hd4.step hA; clear hA p0 p1 p2 p3 p4; obtain ⟨p0, -, -, -, -⟩ := HBox.out _ hd5.2.2.1)
    go_ret
    exact ⟨rfl, HEnd.out _ hd5.2.2.1⟩
  by_cases h7 : E = 7
  · have t0 : (((E : Nat) : Int) == 0) = false := beq_eq_false_iff_ne.2 (by omega)
    have t7 : (((E : Nat) : Int) == 7) = true := beq_iff_eq.2 (by omega)
    have H0 : Hid (¬ E = 0) := h0
    have H7 : Hid (E = 7) := h7
    clear h0 h7
    by_cases h3 : pickI kind 8 < 3
    · skip
      go_enter Try.func7, Try.ntmps7
      go_wp2_with (go_at_call 9; refine HSh.out.mono ?_; rintro e w1 ⟨rfl, hb1⟩)
      go_wp2_with (go_at_call 17; refine (hpick.out _).mono ?_; rintro e w2 ⟨rfl, rfl⟩)
      go_wp2_with (go_at_call 24; refine (HRun.out _ hb1).mono ?_; rintro e w3 ⟨rfl, S3, hd3, hS3, hb3⟩; clear hb3 hS3)
      go_wp2_with (go_at_call 14; refine (cloneOn hd3).mono ?_; rintro e w4 ⟨rfl, hd4, Sc, hc4, hSc, hb4⟩; obtain ⟨p0, p1, p2, p3, p4⟩ := HBox.out _ hd4.2.2.1; have hdis : ∀ k, Sc k → ¬ S3 k := fun k hk hs => by have := hd3.1.below k hs; have := hSc k hk; omega)
      go_wp2_with (go_at_call 26; refine (HCall.out _ _ _ hd4.1).mono ?_; rintro e w5 ⟨rfl, hA⟩; obtain ⟨S5, hd5, g1, g3⟩ := hd4.step hA; clear hA p0 p1 p2 p3 p4; obtain ⟨p0, -, -, -, -⟩ := HBox.out _ hd5.2.2.1)
      go_wp2_with (go_at_call 17; refine (HPk.out _).mono ?_; rintro e w6 ⟨rfl, hw6⟩; have hw6' := hw6.symm; subst hw6')
      go_ret
      exact ⟨rfl, HEnd.out _ hd5.2.2.1⟩
    · skip
      go_enter Try.func7, Try.ntmps7
      go_wp2_with (go_at_call 9; refine HSh.out.mono ?_; rintro e w1 ⟨rfl, hb1⟩)
      go_wp2_with (go_at_call 17; refine (hpick.out _).mono ?_; rintro e w2 ⟨rfl, rfl⟩)
      go_wp2_with (go_at_call 24; refine (HRun.out _ hb1).mono ?_; rintro e w3 ⟨rfl, S3, hd3, hS3, hb3⟩; clear hb3 hS3)
      go_wp2_with (go_at_call 14; refine (cloneOn hd3).mono ?_; rintro e w4 ⟨rfl, hd4, Sc, hc4, hSc, hb4⟩; obtain ⟨p0, p1, p2, p3, p4⟩ := HBox.out _ hd4.2.2.1; have hdis : ∀ k, Sc k → ¬ S3 k := fun k hk hs => by have := hd3.1.below k hs; have := hSc k hk; omega)
      go_wp2_with (go_at_call 26; refine (HCall.out _ _ _ hd4.1).mono ?_; rintro e w5 ⟨rfl, hA⟩; obtain ⟨S5, hd5, g1, g3⟩ := hd4.step hA; clear hA p0 p1 p2 p3 p4; obtain ⟨p0, -, -, -, -⟩ := HBox.out _ hd5.2.2.1)
      go_wp2_with (go_at_call 17; refine (HPk.out _).mono ?_; rintro e w6 ⟨rfl, hw6⟩; have hw6' := hw6.symm; subst hw6')
      have hl2 := HSame.out H0.out (fun h => by have := h.2; omega)
      go_wp2_with (go_at_call 27; refine (one_walk _ _ _ n l1 Sc S5 (hc4.beside hd5 g3 hdis).1 (by rw [← hl2]; exact hd5.1)).mono ?_; rintro e w7 ⟨rfl, hb7⟩)
      go_ret
      exact ⟨rfl, HEnd.out _ (hd5.under hb7).2.2.1⟩
  · have t0 : (((E : Nat) : Int) == 0) = false := beq_eq_false_iff_ne.2 (by omega)
    have t7 : (((E : Nat) : Int) == 7) = false := beq_eq_false_iff_ne.2 (by omega)
    have H0 : Hid (¬ E = 0) := h0
    have H7 : Hid (¬ E = 7) := h7
    clear h0 h7
    go_enter Try.func7, Try.ntmps7
    go_wp2_with (go_at_call 9; refine HSh.out.mono ?_; rintro e w1 ⟨rfl, hb1⟩)
    go_wp2_with (go_at_call 17; refine (hpick.out _).mono ?_; rintro e w2 ⟨rfl, rfl⟩)
    go_wp2_with (go_at_call 24; refine (HRun.out _ hb1).mono ?_; rintro e w3 ⟨rfl, S3, hd3, hS3, hb3⟩; clear hb3 hS3)
    go_wp2_with (go_at_call 14; refine (cloneOn hd3).mono ?_; rintro e w4 ⟨rfl, hd4, Sc, hc4, hSc, hb4⟩; obtain ⟨p0, p1, p2, p3, p4⟩ := HBox.out _ hd4.2.2.1; have hdis : ∀ k, Sc k → ¬ S3 k := fun k hk hs => by have := hd3.1.below k hs; have := hSc k hk; omega)
    go_wp2_with (go_at_call 26; refine (HCall.out _ _ _ hd4.1).mono ?_; rintro e w5 ⟨rfl, hA⟩; obtain ⟨S5, hd5, g1, g3⟩ := hd4.step hA; clear hA p0 p1 p2 p3 p4; obtain ⟨p0, -, -, -, -⟩ := HBox.out _ hd5.2.2.1)
    have hl2 := HSame.out H0.out (fun h => H7.out h.1)
    go_wp2_with (go_at_call 27; refine (one_walk _ _ _ n l1 Sc S5 (hc4.beside hd5 g3 hdis).1 (by rw [← hl2]; exact hd5.1)).mono ?_; rintro e w7 ⟨rfl, hb7⟩)
    go_ret
    exact ⟨rfl, HEnd.out _ (hd5.under hb7).2.2.1⟩
end Go.Proofs.Ytpdghpmfacaglaa
