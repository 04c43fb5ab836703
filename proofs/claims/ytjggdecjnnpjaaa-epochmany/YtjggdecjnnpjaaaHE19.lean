/- EpochMany. -/
import Derived.Test.YtjggdecjnnpjaaaH16
namespace Go.Proofs.Ytjggdecjnnpjaaa
open Go.RowKit Go.Maps Go.Sort
set_option maxRecDepth 100000
set_option linter.unusedSimpArgs false
set_option linter.unusedVariables false

theorem steps_cut2 (step : Int) (k i : Nat) (h : 1 ≤ step) (hk : k ≤ i) : cutW (stepsL step k) ((i : Int) * step) = stepsL step k := by
  refine List.filter_eq_self.2 (fun x hx => ?_)
  simp only [stepsL, List.mem_map, List.mem_range] at hx
  obtain ⟨j, hj, rfl⟩ := hx
  simp only [decide_eq_true_eq]
  exact Int.mul_lt_mul_of_pos_right (by omega) (by omega)
theorem steps_many (step : Int) (i : Nat) (h : 1 ≤ step) (h2 : step ≤ 1000) (hi : 200 ≤ i) (hi2 : i ≤ 205) : beginW (stepsL step 200) (i : Int) ((i : Int) * step) = (3, stepsL step 200) := by
  have hm : 0 ≤ (i : Int) * step := Int.mul_nonneg (by omega) (by omega)
  have hm2 : (i : Int) * step ≤ 205 * 1000 := Int.mul_le_mul (by omega) h2 (by omega) (by omega)
  have hN : newW (stepsL step 200) (i : Int) ((i : Int) * step) = (3, stepsL step 200) := by
    unfold newW
    rw [steps_cut2 step 200 i h hi, steps_length, if_pos (Nat.le_refl _)]
  unfold beginW
  rw [if_neg (fun hh => hh ⟨⟨by omega, by omega⟩, ⟨hm, by omega⟩⟩)]
  cases hx : (stepsL step 200).getLast? with
  | none => exact hN
  | some x =>
    have hm : x ∈ stepsL step 200 := List.mem_of_getLast? hx
    simp only [stepsL, List.mem_map, List.mem_range] at hm
    obtain ⟨j, hj, rfl⟩ := hm
    simp only
    rw [if_neg (by omega), if_neg (by omega)]
    exact hN
/-- What each Begin answers. -/
theorem steps_each (step : Int) (i : Nat) (h : 1 ≤ step) (h2 : step ≤ 1000) (hi2 : i ≤ 205) : beginW (stepsL step (min i 200)) (i : Int) ((i : Int) * step) = (if i < 200 then 0 else 3, stepsL step (min (i + 1) 200)) := by
  by_cases h3 : i < 200
  · rw [Nat.min_eq_left (by omega), steps_begin step i h h2 hi2, if_pos h3, if_pos h3, Nat.min_eq_left (by omega)]
  · rw [Nat.min_eq_right (by omega), steps_many step i h h2 (by omega) hi2, if_neg h3, Nat.min_eq_right (by omega)]

set_option maxHeartbeats 6400000 in
theorem many_walk (w : World) (n : Int) (hn : -9223372036854775808 ≤ n ∧ n ≤ 9223372036854775807) (step : Int) (hs : -9223372036854775808 ≤ step ∧ step ≤ 9223372036854775807) :
    Calls Try.prog 4 #[.int .i64 n, .int .i64 step] w fun e w' => e = .returned (.bool true) ∧ Below w.heap.size w w' := by
  have H6 := hid (shown_any w)
  have HO : Hid (∀ W, Calls Try.prog 15 #[.int .i64 100000] W fun e w' => ∃ q a, e = .returned (.tuple #[.pointer (some ⟨q, 0, none⟩), .pointer (some ⟨a, 0, none⟩)]) ∧ CF W w' (fun _ => False) q a fname [] 100000 ∧ ∃ B, CD w' B q a fname [] 100000 [] ∧ ∀ k, B k → W.heap.size ≤ k) := fun W => opened_any 100000 (by omega) (by omega) W
  have hr1 := pickI_range n 10 (by omega)
  have hr2 := pickI_range step 1000 (by omega)
  have HP1 : Hid (∀ W, Calls Try.prog 16 #[.int .i64 n, .int .i64 10] W fun e w' => e = .returned (.int .i64 (pickI n 10)) ∧ w' = W) := fun W => pick_any n 10 W hn.1 hn.2 (by omega) (by omega)
  have HP2 : Hid (∀ W, Calls Try.prog 16 #[.int .i64 step, .int .i64 1000] W fun e w' => e = .returned (.int .i64 (pickI step 1000)) ∧ w' = W) := fun W => pick_any step 1000 W hs.1 hs.2 (by omega) (by omega)
  generalize pickI n 10 = r1 at *
  generalize pickI step 1000 = r2 at *
  obtain ⟨N, hN⟩ : ∃ N : Nat, 195 + r1 = (N : Int) := ⟨(195 + r1).toNat, by omega⟩
  obtain ⟨T, hT⟩ : ∃ T : Int, 1 + r2 = T := ⟨_, rfl⟩
  have hN2 : N ≤ 204 := by omega
  have hN3 : 195 ≤ N := by omega
  have hT1 : 1 ≤ T := by omega
  have hT2 : T ≤ 1000 := by omega
  go_enter Try.func4, Try.ntmps4
  go_wp2_with fail
  refine H6.out.mono ?_
  rintro e w1 ⟨rfl, hb1⟩
  have HB1 := hid hb1
  clear hb1 H6
  go_wp2_with fail
  refine (HO.out _).mono ?_
  rintro e w2 ⟨q, a, rfl, hc2, _⟩
  have C2 := hid hc2
  clear hc2 HO
  go_wp2_with fail
  refine (HP1.out _).mono ?_
  rintro e w3 ⟨rfl, rfl⟩
  go_wp2_with fail
  refine (HP2.out _).mono ?_
  rintro e w4 ⟨rfl, rfl⟩
  go_wp2_with fail
  go_loopg [8] N (fun kx s8 wr => ∃ k : Nat, k ≤ N ∧ N - k ≤ kx ∧ s8 = .int .i64 (k : Int) ∧ Hid (CF w1 wr (fun _ => False) q a fname (stepsL T (min k 200)) 100000))
  case atStart => exact ⟨0, by omega, by omega, rfl, C2⟩
  case round =>
    obtain ⟨k, hk, hkx, rfl, HI⟩ := hrel
    clear C2
    by_cases hlt : k < N
    · have hlt' : (k : Int) < (N : Int) := by omega
      have hE := steps_each T k hT1 hT2 (by omega)
      have hM1 : 0 ≤ (k : Int) * T := Int.mul_nonneg (by omega) (by omega)
      have hM2 : (k : Int) * T ≤ 205 * 1000 := Int.mul_le_mul (by omega) hT2 (by omega) (by omega)
      have HB : Hid (Calls Try.prog 17 #[.pointer (some ⟨q, 0, none⟩), .int .i64 (k : Int), .int .i64 ((k : Int) * T)] wr fun en w' => en = .returned (.int .i64 ((if k < 200 then 0 else 3 : Nat) : Int)) ∧ CF w1 w' (fun _ => False) q a fname (stepsL T (min (k + 1) 200)) 100000) :=
        HI.out.begin' _ _ _ _ hE (by rw [steps_length]; omega)
      have hW : IntKind.i64.wrap ((k : Int) * T) = (k : Int) * T := IntWalk.i64_in _ (by omega)
      clear hE
      by_cases h200 : k < 200
      · rw [if_pos h200] at HB
        have h200' : (k : Int) < 200 := by omega
        go_wp2_with fail
        refine HB.out.mono ?_
        rintro e w5 ⟨rfl, hc5⟩
        have C5 := hid hc5
        clear hc5 HB
        go_wp2_with fail
        go_roundg (N - (k + 1))
        case measure => omega
        case rel => exact ⟨k + 1, by omega, Nat.le_refl _, by go_num, C5⟩
      · rw [if_neg h200] at HB
        have h200' : ¬ (k : Int) < 200 := by omega
        go_wp2_with fail
        refine HB.out.mono ?_
        rintro e w5 ⟨rfl, hc5⟩
        have C5 := hid hc5
        clear hc5 HB
        go_wp2_with fail
        go_roundg (N - (k + 1))
        case measure => omega
        case rel => exact ⟨k + 1, by omega, Nat.le_refl _, by go_num, C5⟩
    · have hlt' : ¬ (k : Int) < (N : Int) := by omega
      have e : k = N := by omega
      subst e
      have HA := hid HI.out.all
      have hsl := steps_length T (min k 200)
      rw [hsl] at HA
      have HLs := hid (steps_last T (min k 200))
      have CI := hid HI.out
      clear hsl HI
      by_cases h200 : k ≤ 200
      · have hmin : min k 200 = k := by omega
        rw [hmin] at HA HLs CI
        have h1 : (k : Int) ≤ 200 := by omega
        have h2 : ¬ (200 : Int) < (k : Int) := by omega
        have h3 : min (k : Int) 200 = (k : Int) := by omega
        go_wp2_with fail
        refine HA.out.mono ?_
        rintro e w5 ⟨rv, rfl, hr5, hb5⟩
        have HL := hid (CI.out.under hb5).last
        have HB5 := hid ((CI.out.under hb5).below)
        rw [HLs.out] at HL
        obtain ⟨oa, cap, rfl, _⟩ := (AL.of (l := stepsL T k) (by rw [steps_length]; exact hr5)).shape
        rw [steps_length]
        clear hr5 hb5
        go_wp2_with fail
        refine HL.out.mono ?_
        rintro e w6 ⟨rfl, hb6⟩
        go_wp2_with fail
        go_ret
        exact ⟨rfl, HB1.out.trans ((HB5.out.trans (hb6.mono HB5.out.size)).mono HB1.out.size)⟩
      · have hmin : min k 200 = 200 := by omega
        rw [hmin] at HA HLs CI
        have h1 : ¬ (k : Int) ≤ 200 := by omega
        have h2 : (200 : Int) < (k : Int) := by omega
        have h3 : min (k : Int) 200 = 200 := by omega
        go_wp2_with fail
        refine HA.out.mono ?_
        rintro e w5 ⟨rv, rfl, hr5, hb5⟩
        have HL := hid (CI.out.under hb5).last
        have HB5 := hid ((CI.out.under hb5).below)
        rw [HLs.out] at HL
        obtain ⟨oa, cap, rfl, _⟩ := (AL.of (l := stepsL T 200) (by rw [steps_length]; exact hr5)).shape
        rw [steps_length]
        clear hr5 hb5
        go_wp2_with fail
        refine HL.out.mono ?_
        rintro e w6 ⟨rfl, hb6⟩
        go_wp2_with fail
        go_ret
        exact ⟨rfl, HB1.out.trans ((HB5.out.trans (hb6.mono HB5.out.size)).mono HB1.out.size)⟩

end Go.Proofs.Ytjggdecjnnpjaaa

