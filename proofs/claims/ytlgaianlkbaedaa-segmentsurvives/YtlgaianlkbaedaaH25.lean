/- sort.Search. -/
import Derived.Test.YtlgaianlkbaedaaH24
namespace Go.Proofs.Ytlgaianlkbaedaa
open Go.RowKit Go.Maps Go.Sort
set_option maxRecDepth 100000
set_option linter.unusedSimpArgs false
set_option linter.unusedVariables false

set_option maxHeartbeats 3200000 in
theorem search_57 {w : World} (n : Nat) (hn : n ≤ 5000) (p : Nat → Bool) (c1 c2 : Value) (HF : Hid (∀ t, t < n → ∀ W, Below w.heap.size w W → Calls Try.prog 57 #[.int .i64 (t : Int), c1, c2] W fun e w' => e = .returned (.bool (p t)) ∧ Below w.heap.size w w')) :
    Calls Try.prog 45 #[.int .i64 (n : Int), .func (.func 57) #[] #[c1, c2]] w fun e w' => ∃ r : Nat, r ≤ n ∧ e = .returned (.int .i64 (r : Int)) ∧ (r = 0 ∨ p (r - 1) = false) ∧ (r = n ∨ p r = true) ∧ Below w.heap.size w w' := by
  go_enter Try.func45, Try.ntmps45
  go_wp2_with fail
  go_loopg [5, 6] n (fun kx s5 s6 wr => ∃ (i j : Nat), i ≤ j ∧ j ≤ n ∧ j - i ≤ kx ∧ s5 = .int .i64 (i : Int) ∧ s6 = .int .i64 (j : Int) ∧ Hid ((i = 0 ∨ p (i - 1) = false) ∧ (j = n ∨ p j = true) ∧ Below w.heap.size w wr))
  case atStart => exact ⟨0, n, by omega, by omega, by omega, rfl, rfl, .inl rfl, .inl rfl, Below.refl _ _⟩
  case round =>
    obtain ⟨i, j, hij, hjn, hkx, rfl, rfl, HI⟩ := hrel
    by_cases hlt : i < j
    · have hlt' : (i : Int) < (j : Int) := by omega
      obtain ⟨t, ht⟩ : ∃ t : Nat, ((i : Int) + (j : Int)) / 2 = (t : Int) := ⟨(i + j) / 2, by omega⟩
      have ht1 : i ≤ t := by omega
      have ht2 : t < j := by omega
      have HC := hid (HF.out t (by omega) wr HI.out.2.2)
      have HT := hid ht
      clear ht
      go_wp2_with fail
      rw [HT.out]
      clear HT
      cases hp : p t with
      | true =>
        rw [hp] at HC
        refine HC.out.mono ?_
        rintro e w4 ⟨rfl, hb4⟩
        go_wp2_with fail
        go_roundg (t - i)
        case measure => omega
        case rel => exact ⟨i, t, ht1, by omega, Nat.le_refl _, rfl, rfl, HI.out.1, .inr hp, hb4⟩
      | false =>
        rw [hp] at HC
        refine HC.out.mono ?_
        rintro e w4 ⟨rfl, hb4⟩
        go_wp2_with fail
        go_roundg (j - (t + 1))
        case measure => omega
        case rel => exact ⟨t + 1, j, by omega, hjn, Nat.le_refl _, by go_num, rfl, .inr (by simpa using hp), HI.out.2.1, hb4⟩
    · have hlt' : ¬ (i : Int) < (j : Int) := by omega
      go_wp2_with fail
      go_ret
      have e : j = i := by omega
      subst e
      exact ⟨j, hjn, rfl, HI.out⟩
set_option maxHeartbeats 3200000 in
theorem search_46 {w : World} (n : Nat) (hn : n ≤ 5000) (p : Nat → Bool) (c1 c2 : Value) (HF : Hid (∀ t, t < n → ∀ W, Below w.heap.size w W → Calls Try.prog 46 #[.int .i64 (t : Int), c1, c2] W fun e w' => e = .returned (.bool (p t)) ∧ Below w.heap.size w w')) :
    Calls Try.prog 45 #[.int .i64 (n : Int), .func (.func 46) #[] #[c1, c2]] w fun e w' => ∃ r : Nat, r ≤ n ∧ e = .returned (.int .i64 (r : Int)) ∧ (r = 0 ∨ p (r - 1) = false) ∧ (r = n ∨ p r = true) ∧ Below w.heap.size w w' := by
  go_enter Try.func45, Try.ntmps45
  go_wp2_with fail
  go_loopg [5, 6] n (fun kx s5 s6 wr => ∃ (i j : Nat), i ≤ j ∧ j ≤ n ∧ j - i ≤ kx ∧ s5 = .int .i64 (i : Int) ∧ s6 = .int .i64 (j : Int) ∧ Hid ((i = 0 ∨ p (i - 1) = false) ∧ (j = n ∨ p j = true) ∧ Below w.heap.size w wr))
  case atStart => exact ⟨0, n, by omega, by omega, by omega, rfl, rfl, .inl rfl, .inl rfl, Below.refl _ _⟩
  case round =>
    obtain ⟨i, j, hij, hjn, hkx, rfl, rfl, HI⟩ := hrel
    by_cases hlt : i < j
    · have hlt' : (i : Int) < (j : Int) := by omega
      obtain ⟨t, ht⟩ : ∃ t : Nat, ((i : Int) + (j : Int)) / 2 = (t : Int) := ⟨(i + j) / 2, by omega⟩
      have ht1 : i ≤ t := by omega
      have ht2 : t < j := by omega
      have HC := hid (HF.out t (by omega) wr HI.out.2.2)
      have HT := hid ht
      clear ht
      go_wp2_with fail
      rw [HT.out]
      clear HT
      cases hp : p t with
      | true =>
        rw [hp] at HC
        refine HC.out.mono ?_
        rintro e w4 ⟨rfl, hb4⟩
        go_wp2_with fail
        go_roundg (t - i)
        case measure => omega
        case rel => exact ⟨i, t, ht1, by omega, Nat.le_refl _, rfl, rfl, HI.out.1, .inr hp, hb4⟩
      | false =>
        rw [hp] at HC
        refine HC.out.mono ?_
        rintro e w4 ⟨rfl, hb4⟩
        go_wp2_with fail
        go_roundg (j - (t + 1))
        case measure => omega
        case rel => exact ⟨t + 1, j, by omega, hjn, Nat.le_refl _, by go_num, rfl, .inr (by simpa using hp), HI.out.2.1, hb4⟩
    · have hlt' : ¬ (i : Int) < (j : Int) := by omega
      go_wp2_with fail
      go_ret
      have e : j = i := by omega
      subst e
      exact ⟨j, hjn, rfl, HI.out⟩

end Go.Proofs.Ytlgaianlkbaedaa

