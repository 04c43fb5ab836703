/- ReadInt of the document. -/
import Derived.Test.YtkdbclnnmpnfgaaH1
namespace Go.Proofs.Ytkdbclnnmpnfgaa
open Go.RowKit Go.Maps
set_option linter.unusedSimpArgs false
set_option linter.unusedVariables false
set_option maxRecDepth 100000

theorem pow_lt64 (k : Nat) (hk : k ≤ 9) : 128 ^ k % 18446744073709551616 = 128 ^ k := by
  have h9' : (128 : Nat) ^ 9 = 9223372036854775808 := by decide
  have hp : 128 ^ k ≤ 128 ^ 9 := Nat.pow_le_pow_right (by omega) (by omega)
  exact Nat.mod_eq_of_lt (by omega)
theorem pow_next (k : Nat) (hk : k ≤ 9) : IntKind.u64.wrap (((128 ^ k % 18446744073709551616 : Nat) : Int) * 128) = ((128 ^ (k + 1) % 18446744073709551616 : Nat) : Int) := by
  rw [pow_lt64 k hk, IntKind.wrap_u64, Nat.pow_succ]
  omega
theorem mul_add (z d k : Nat) (hk : k ≤ 9) (hz : z < 128 ^ k) (h9 : k = 9 → d ≤ 1) :
    IntKind.u64.wrap ((z : Int) + IntKind.u64.wrap ((d : Int) % 128 * ((128 ^ k % 18446744073709551616 : Nat) : Int))) = ((z + d % 128 * 128 ^ k : Nat) : Int) := by
  have hlt := shl_lt z d k hk hz h9
  rw [pow_lt64 k hk, show (d : Int) % 128 = ((d % 128 : Nat) : Int) by omega, ← Int.natCast_mul]
  generalize d % 128 * 128 ^ k = M at *
  rw [IntKind.wrap_u64, IntKind.wrap_u64]
  omega

set_option maxHeartbeats 1600000 in
theorem rreadInt_any (s : ByteArray) (w : World) (hs : s.size ≤ maxLen) :
    Calls Try.prog 75 #[.string s] w fun e w' => e = .returned (.tuple #[.int .i64 (readL s.data.toList).1, .int .i64 ((readL s.data.toList).2.1 : Nat), .int .i64 (readL s.data.toList).2.2]) ∧ w = w' := by
  unfold maxLen at hs
  obtain ⟨R, hR⟩ : ∃ R, R = rdZ 10 0 0 s.data.toList := ⟨_, rfl⟩
  have HR : Hid (readL s.data.toList = okI R) := by show _ = _; rw [hR]; rfl
  have H0 : Hid (rdZ (10 - 0) 0 0 (s.data.toList.drop 0) = R) := hR.symm
  clear hR
  go_enter Try.func75, Try.ntmps75
  go_wp2
  go_loop [5, 6, 7] (fun c p i => ∃ k z : Nat, k ≤ 10 ∧ k ≤ s.size ∧ i = .int .i64 k ∧ c = .int .u64 z ∧ p = .int .u64 ((128 ^ k % 18446744073709551616 : Nat) : Int) ∧ z < 128 ^ k ∧ Hid (rdZ (10 - k) k z (s.data.toList.drop k) = R)) (fun _ _ i => 10 - (intOf i).toNat)
  case atStart => exact ⟨0, 0, Nat.zero_le _, Nat.zero_le _, rfl, rfl, rfl, by simp, H0⟩
  case round =>
    obtain ⟨k, z, hk, hks, rfl, rfl, rfl, hz, HD⟩ := hrel
    clear H0
    by_cases hlt : k < 10
    · have hlt' : (k : Int) < 10 := by omega
      by_cases hsz : k < s.size
      · have hsz' : ¬ (s.size : Int) ≤ (k : Int) := by omega
        have hb := s[k].toNat_lt
        by_cases h9 : k = 9
        · have h9' : ((k : Int) == 9) = true := by simp; omega
          by_cases hd1 : 1 < s[k].toNat
          · have hd1' : 1 < (s[k].toNat : Int) := by omega
            have HF : Hid (readL s.data.toList = (0, 0, 4)) := by
              show _ = _
              rw [HR.out, ← HD.out, drop_at s k hsz, show 10 - k = 10 - (k + 1) + 1 by omega, rdZ, if_pos (by omega)]
              rfl
            clear h9
            go_wp2
            go_ret3
            exact ⟨by rw [HF.out]; rfl, rfl⟩
          · have hd1' : ¬ 1 < (s[k].toNat : Int) := by omega
            obtain ⟨Z, hZ⟩ : ∃ Z, Z = z + s[k].toNat % 128 * 128 ^ k := ⟨_, rfl⟩
            have hbig := mul_add z s[k].toNat k (by omega) hz (by omega)
            have hpw := pow_next k (by omega)
            have hZlt := shl_lt z s[k].toNat k (by omega) hz (by omega)
            have hZp := shl_pow z s[k].toNat k hz
            rw [← hZ] at hbig hZlt hZp
            obtain ⟨P1, hP1⟩ : ∃ P1, P1 = 128 ^ (k + 1) % 18446744073709551616 := ⟨_, rfl⟩
            have HP1 := hid hP1
            rw [← hP1] at hpw
            clear hP1
            generalize 128 ^ k % 18446744073709551616 = P at *
            by_cases hd : s[k].toNat < 128
            · have hd' : ¬ 128 ≤ (s[k].toNat : Int) := by omega
              by_cases h0 : 0 < k
              · have h0' : 0 < (k : Int) := by omega
                by_cases hd0 : s[k].toNat = 0
                · have hd0' : ((s[k].toNat : Int) == 0) = true := by simp; omega
                  have HF : Hid (readL s.data.toList = (0, 0, 4)) := by
                    show _ = _
                    rw [HR.out, ← HD.out, drop_at s k hsz, show 10 - k = 10 - (k + 1) + 1 by omega, rdZ, if_pos (by omega)]
                    rfl
                  clear hd0 hZ h9 hd1
                  go_wp2
                  go_ret3
                  exact ⟨by rw [HF.out]; rfl, rfl⟩
                · have hd0' : ((s[k].toNat : Int) == 0) = false := by simp; omega
                  have HN := hid (rdZ_step (10 - (k + 1)) k z s[k] (s.data.toList.drop (k + 1)) (by omega))
                  rw [← hZ, show 10 - (k + 1) + 1 = 10 - k by omega, ← drop_at s k hsz] at HN
                  have HN3 := hid (HN.out.symm.trans HD.out)
                  clear HN
                  have HF : Hid (readL s.data.toList = (unzz Z, k + 1, 0)) := by
                    show _ = _
                    rw [HR.out, ← HN3.out, if_pos hd]
                    rfl
                  by_cases ho : Z % 2 = 1
                  · have ho' : ((Z : Int) % 2 == 1) = true := by simp; omega
                    have HU : Hid (unzz Z = -((Z : Int) / 2) - 1) := by show _ = _; unfold unzz; rw [if_pos ho]; omega
                    clear hZ ho hd0 h9 hd1
                    go_wp2
                    go_ret3
                    exact ⟨by rw [HF.out, HU.out]; go_num, rfl⟩
                  · have ho' : ((Z : Int) % 2 == 1) = false := by simp; omega
                    have HU : Hid (unzz Z = (Z : Int) / 2) := by show _ = _; unfold unzz; rw [if_neg ho]; omega
                    clear hZ ho hd0 h9 hd1
                    go_wp2
                    go_ret3
                    exact ⟨by rw [HF.out, HU.out]; go_num, rfl⟩
              · have h0' : ¬ 0 < (k : Int) := by omega
                omega
            · have hd' : 128 ≤ (s[k].toNat : Int) := by omega
              omega
        · have h9' : ((k : Int) == 9) = false := by simp; omega
          obtain ⟨Z, hZ⟩ : ∃ Z, Z = z + s[k].toNat % 128 * 128 ^ k := ⟨_, rfl⟩
          have hbig := mul_add z s[k].toNat k (by omega) hz (by omega)
          have hpw := pow_next k (by omega)
          have hZlt := shl_lt z s[k].toNat k (by omega) hz (by omega)
          have hZp := shl_pow z s[k].toNat k hz
          rw [← hZ] at hbig hZlt hZp
          obtain ⟨P1, hP1⟩ : ∃ P1, P1 = 128 ^ (k + 1) % 18446744073709551616 := ⟨_, rfl⟩
          have HP1 := hid hP1
          rw [← hP1] at hpw
          clear hP1
          generalize 128 ^ k % 18446744073709551616 = P at *
          by_cases hd : s[k].toNat < 128
          · have hd' : ¬ 128 ≤ (s[k].toNat : Int) := by omega
            by_cases h0 : 0 < k
            · have h0' : 0 < (k : Int) := by omega
              by_cases hd0 : s[k].toNat = 0
              · have hd0' : ((s[k].toNat : Int) == 0) = true := by simp; omega
                have HF : Hid (readL s.data.toList = (0, 0, 4)) := by
                  show _ = _
                  rw [HR.out, ← HD.out, drop_at s k hsz, show 10 - k = 10 - (k + 1) + 1 by omega, rdZ, if_pos (by omega)]
                  rfl
                clear hd0 hZ h9
                go_wp2
                go_ret3
                exact ⟨by rw [HF.out]; rfl, rfl⟩
              · have hd0' : ((s[k].toNat : Int) == 0) = false := by simp; omega
                have HN := hid (rdZ_step (10 - (k + 1)) k z s[k] (s.data.toList.drop (k + 1)) (by omega))
                rw [← hZ, show 10 - (k + 1) + 1 = 10 - k by omega, ← drop_at s k hsz] at HN
                have HN3 := hid (HN.out.symm.trans HD.out)
                clear HN
                have HF : Hid (readL s.data.toList = (unzz Z, k + 1, 0)) := by
                  show _ = _
                  rw [HR.out, ← HN3.out, if_pos hd]
                  rfl
                by_cases ho : Z % 2 = 1
                · have ho' : ((Z : Int) % 2 == 1) = true := by simp; omega
                  have HU : Hid (unzz Z = -((Z : Int) / 2) - 1) := by show _ = _; unfold unzz; rw [if_pos ho]; omega
                  clear hZ ho hd0 h9
                  go_wp2
                  go_ret3
                  exact ⟨by rw [HF.out, HU.out]; go_num, rfl⟩
                · have ho' : ((Z : Int) % 2 == 1) = false := by simp; omega
                  have HU : Hid (unzz Z = (Z : Int) / 2) := by show _ = _; unfold unzz; rw [if_neg ho]; omega
                  clear hZ ho hd0 h9
                  go_wp2
                  go_ret3
                  exact ⟨by rw [HF.out, HU.out]; go_num, rfl⟩
            · have h0' : ¬ 0 < (k : Int) := by omega
              have HN := hid (rdZ_step (10 - (k + 1)) k z s[k] (s.data.toList.drop (k + 1)) (by omega))
              rw [← hZ, show 10 - (k + 1) + 1 = 10 - k by omega, ← drop_at s k hsz] at HN
              have HN3 := hid (HN.out.symm.trans HD.out)
              clear HN
              have HF : Hid (readL s.data.toList = (unzz Z, k + 1, 0)) := by
                show _ = _
                rw [HR.out, ← HN3.out, if_pos hd]
                rfl
              by_cases ho : Z % 2 = 1
              · have ho' : ((Z : Int) % 2 == 1) = true := by simp; omega
                have HU : Hid (unzz Z = -((Z : Int) / 2) - 1) := by show _ = _; unfold unzz; rw [if_pos ho]; omega
                clear hZ ho h0 h9
                go_wp2
                go_ret3
                exact ⟨by rw [HF.out, HU.out]; go_num, rfl⟩
              · have ho' : ((Z : Int) % 2 == 1) = false := by simp; omega
                have HU : Hid (unzz Z = (Z : Int) / 2) := by show _ = _; unfold unzz; rw [if_neg ho]; omega
                clear hZ ho h0 h9
                go_wp2
                go_ret3
                exact ⟨by rw [HF.out, HU.out]; go_num, rfl⟩
          · have hd' : 128 ≤ (s[k].toNat : Int) := by omega
            have HN := hid (rdZ_step (10 - (k + 1)) k z s[k] (s.data.toList.drop (k + 1)) (by omega))
            rw [← hZ, show 10 - (k + 1) + 1 = 10 - k by omega, ← drop_at s k hsz] at HN
            have HN3 := hid (HN.out.symm.trans HD.out)
            clear HN
            have HF : Hid (rdZ (10 - (k + 1)) (k + 1) Z (s.data.toList.drop (k + 1)) = R) := by
              show _ = _
              rw [← HN3.out, if_neg hd]
            clear hZ h9
            go_wp2
            go_round
            case rel => exact ⟨k + 1, Z, by omega, by omega, by go_num, rfl, by rw [← HP1.out], hZp, HF⟩
            case measure => simp [intOf]; omega
      · have hsz' : (s.size : Int) ≤ (k : Int) := by omega
        have HF : Hid (readL s.data.toList = (0, 0, 5)) := by
          show _ = _
          rw [HR.out, ← HD.out, show 10 - k = 10 - (k + 1) + 1 by omega, List.drop_of_length_le (by simp; omega)]
          rfl
        go_wp2
        go_ret3
        exact ⟨by rw [HF.out]; rfl, rfl⟩
    · have hlt' : ¬ (k : Int) < 10 := by omega
      have HF : Hid (readL s.data.toList = (0, 0, 4)) := by
        show _ = _
        rw [HR.out, ← HD.out, show 10 - k = 0 by omega]
        rfl
      go_wp2
      go_ret3
      exact ⟨by rw [HF.out]; rfl, rfl⟩
end Go.Proofs.Ytkdbclnnmpnfgaa

