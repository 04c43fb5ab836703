/- ReadInt of both. -/
import Derived.Test.YtjggdecjnnpjaaaH0
namespace Go.Proofs.Ytjggdecjnnpjaaa
open Go.RowKit Go.Maps
set_option linter.unusedSimpArgs false
set_option linter.unusedVariables false
set_option maxRecDepth 100000

theorem drop_at (s : ByteArray) (k : Nat) (h : k < s.size) : s.data.toList.drop k = s[k] :: s.data.toList.drop (k + 1) := by
  rw [List.drop_eq_getElem_cons (by simpa using h)]; rfl

theorem and127 : ∀ x : Nat, x < 256 → x &&& 127 = x % 128 := fun x _ => nat_mask7 x
theorem pow_two (k : Nat) : (2 : Int) ^ (7 * k) = ((128 ^ k : Nat) : Int) := by
  rw [Int.pow_mul]; norm_cast
theorem shl_lt (z d k : Nat) (hk : k ≤ 9) (hz : z < 128 ^ k) (h9 : k = 9 → d ≤ 1) : z + d % 128 * 128 ^ k < 18446744073709551616 := by
  have h9' : (128 : Nat) ^ 9 = 9223372036854775808 := by decide
  by_cases h : k = 9
  · subst h
    have : d % 128 * 128 ^ 9 ≤ 1 * 128 ^ 9 := Nat.mul_le_mul_right _ (by have := h9 rfl; omega)
    omega
  · have hp8 : 128 ^ k ≤ 128 ^ 8 := Nat.pow_le_pow_right (by omega) (by omega)
    have h8 : (128 : Nat) ^ 8 = 72057594037927936 := by decide
    have : d % 128 * 128 ^ k ≤ 127 * 128 ^ k := Nat.mul_le_mul_right _ (by omega)
    omega
theorem shl_pow (z d k : Nat) (hz : z < 128 ^ k) : z + d % 128 * 128 ^ k < 128 ^ (k + 1) := by
  have : d % 128 * 128 ^ k ≤ 127 * 128 ^ k := Nat.mul_le_mul_right _ (by omega)
  rw [Nat.pow_succ]
  omega
theorem shl_or (z d k : Nat) (hk : k ≤ 9) (hz : z < 128 ^ k) (hd : d < 256) (h9 : k = 9 → d ≤ 1) :
    bits .or .u64 (z : Int) (IntKind.u64.wrap (IntKind.u64.wrap (bits .and .u8 (d : Int) 127) * 2 ^ (7 * k))) = ((z + d % 128 * 128 ^ k : Nat) : Int) := by
  have hlt := shl_lt z d k hk hz h9
  have e1 : bits .and .u8 (d : Int) 127 = ((d % 128 : Nat) : Int) := by
    have := u8_and_nat d 127 hd (by omega)
    rw [nat_mask7] at this
    exact this
  have e2 : IntKind.u64.wrap ((d % 128 : Nat) : Int) = ((d % 128 : Nat) : Int) := by rw [IntKind.wrap_u64]; omega
  have e3 : IntKind.u64.wrap (((d % 128 * 128 ^ k : Nat) : Int)) = ((d % 128 * 128 ^ k : Nat) : Int) := by rw [IntKind.wrap_u64]; omega
  rw [e1, e2, pow_two, ← Int.natCast_mul, e3, u64_or_nat _ _ (by omega) (by omega)]
  have hj := nat_join (7 * k) (d % 128 * 128 ^ k) z (by rw [Nat.pow_mul]; exact Nat.mul_mod_left _ _) (by rw [Nat.pow_mul]; exact hz)
  rw [Nat.or_comm, hj, Nat.add_comm]
theorem rdZ_step (f k z : Nat) (d : UInt8) (r : List UInt8) (h : ¬ ((k = 9 ∧ 1 < d.toNat) ∨ (0 < k ∧ d.toNat = 0))) :
    rdZ (f + 1) k z (d :: r) = if d.toNat < 128 then (z + d.toNat % 128 * 128 ^ k, k + 1, 0) else rdZ f (k + 1) (z + d.toNat % 128 * 128 ^ k) r := by
  rw [rdZ, if_neg h]
  by_cases hd : d.toNat < 128
  · rw [if_pos hd, if_pos hd, Nat.mod_eq_of_lt hd]
  · rw [if_neg hd, if_neg hd]

set_option maxHeartbeats 1600000 in
theorem readInt_any (s : ByteArray) (w : World) (hs : s.size ≤ maxLen) :
    Calls Try.prog 59 #[.string s] w fun e w' => e = .returned (.tuple #[.int .i64 (readL s.data.toList).1, .int .i64 ((readL s.data.toList).2.1 : Nat), .int .i64 (readL s.data.toList).2.2]) ∧ w = w' := by
  unfold maxLen at hs
  obtain ⟨R, hR⟩ : ∃ R, R = rdZ 10 0 0 s.data.toList := ⟨_, rfl⟩
  have HR : Hid (readL s.data.toList = okI R) := by show _ = _; rw [hR]; rfl
  have H0 : Hid (rdZ (10 - 0) 0 0 (s.data.toList.drop 0) = R) := hR.symm
  clear hR
  go_enter Try.func59, Try.ntmps59
  go_wp2
  go_loop [5, 8] (fun c i => ∃ k z : Nat, k ≤ 10 ∧ k ≤ s.size ∧ i = .int .i64 k ∧ c = .int .u64 z ∧ z < 128 ^ k ∧ Hid (rdZ (10 - k) k z (s.data.toList.drop k) = R)) (fun _ i => 10 - (intOf i).toNat)
  case atStart => exact ⟨0, 0, Nat.zero_le _, Nat.zero_le _, rfl, rfl, by simp, H0⟩
  case round =>
    obtain ⟨k, z, hk, hks, rfl, rfl, hz, HD⟩ := hrel
    clear H0
    by_cases hlt : k < 10
    · have hlt' : (k : Int) < 10 := by omega
      by_cases hsz : k < s.size
      · have hsz' : ((k : Int) == (s.size : Int)) = false := by simp; omega
        by_cases h9 : k = 9
        · have h9' : ((k : Int) == 9) = true := by simp; omega
          by_cases hd1 : 1 < s[k].toNat
          · have hd1' : 1 < (s[k].toNat : Int) := by omega
            have HF : Hid (readL s.data.toList = (0, 0, 4)) := by
              show _ = _
              rw [HR.out, ← HD.out, drop_at s k hsz, show 10 - k = 10 - (k + 1) + 1 by omega, rdZ, if_pos (by omega)]
              rfl
            try clear h9
            try clear h0
            try clear hd0
            go_wp2
            go_ret3
            exact ⟨by rw [HF.out]; rfl, rfl⟩
          · have hd1' : ¬ 1 < (s[k].toNat : Int) := by omega
            have h0' : 0 < (k : Int) := by omega
            by_cases hd0 : s[k].toNat = 0
            · have hd0' : ((s[k].toNat : Int) == 0) = true := by simp; omega
              have HF : Hid (readL s.data.toList = (0, 0, 4)) := by
                show _ = _
                rw [HR.out, ← HD.out, drop_at s k hsz, show 10 - k = 10 - (k + 1) + 1 by omega, rdZ, if_pos (by omega)]
                rfl
              try clear h9
              try clear h0
              try clear hd0
              go_wp2
              go_ret3
              exact ⟨by rw [HF.out]; rfl, rfl⟩
            · have hd0' : ((s[k].toNat : Int) == 0) = false := by simp; omega
              have hb := s[k].toNat_lt
              have hcond : ¬ ((k = 9 ∧ 1 < s[k].toNat) ∨ (0 < k ∧ s[k].toNat = 0)) := by omega
              obtain ⟨Z, hZ⟩ : ∃ Z, Z = z + s[k].toNat % 128 * 128 ^ k := ⟨_, rfl⟩
              have hbig := shl_or z s[k].toNat k (by omega) hz (by omega) (by omega)
              have hZlt := shl_lt z s[k].toNat k (by omega) hz (by omega)
              have hZp := shl_pow z s[k].toNat k hz
              have HN := hid (rdZ_step (10 - (k + 1)) k z s[k] (s.data.toList.drop (k + 1)) hcond)
              rw [← hZ] at hbig hZlt hZp HN
              rw [show 10 - (k + 1) + 1 = 10 - k by omega, ← drop_at s k hsz] at HN
              have HN2 := HN.out.symm.trans HD.out
              have HN3 := hid HN2
              clear HN HN2 hZ hcond hz
              try clear h9
              try clear h0
              try clear hd0
              by_cases hd : s[k].toNat < 128
              · have hd' : (s[k].toNat : Int) < 128 := by omega
                have HF : Hid (readL s.data.toList = (unzz Z, k + 1, 0)) := by
                  show _ = _
                  rw [HR.out, ← HN3.out, if_pos hd]
                  rfl
                go_wp2_with (go_at_call 65; refine (unfolded_any Z _ hZlt).mono ?_; rintro e w' ⟨rfl, rfl⟩)
                go_ret3
                exact ⟨by rw [HF.out]; go_num, rfl⟩
              · omega
        · have h9' : ((k : Int) == 9) = false := by simp; omega
          by_cases h0 : k = 0
          · have h0' : ¬ 0 < (k : Int) := by omega
            have hb := s[k].toNat_lt
            have hcond : ¬ ((k = 9 ∧ 1 < s[k].toNat) ∨ (0 < k ∧ s[k].toNat = 0)) := by omega
            obtain ⟨Z, hZ⟩ : ∃ Z, Z = z + s[k].toNat % 128 * 128 ^ k := ⟨_, rfl⟩
            have hbig := shl_or z s[k].toNat k (by omega) hz (by omega) (by omega)
            have hZlt := shl_lt z s[k].toNat k (by omega) hz (by omega)
            have hZp := shl_pow z s[k].toNat k hz
            have HN := hid (rdZ_step (10 - (k + 1)) k z s[k] (s.data.toList.drop (k + 1)) hcond)
            rw [← hZ] at hbig hZlt hZp HN
            rw [show 10 - (k + 1) + 1 = 10 - k by omega, ← drop_at s k hsz] at HN
            have HN2 := HN.out.symm.trans HD.out
            have HN3 := hid HN2
            clear HN HN2 hZ hcond hz
            try clear h9
            try clear h0
            try clear hd0
            by_cases hd : s[k].toNat < 128
            · have hd' : (s[k].toNat : Int) < 128 := by omega
              have HF : Hid (readL s.data.toList = (unzz Z, k + 1, 0)) := by
                show _ = _
                rw [HR.out, ← HN3.out, if_pos hd]
                rfl
              go_wp2_with (go_at_call 65; refine (unfolded_any Z _ hZlt).mono ?_; rintro e w' ⟨rfl, rfl⟩)
              go_ret3
              exact ⟨by rw [HF.out]; go_num, rfl⟩
            · have hd' : ¬ (s[k].toNat : Int) < 128 := by omega
              have HF : Hid (rdZ (10 - (k + 1)) (k + 1) Z (s.data.toList.drop (k + 1)) = R) := by
                show _ = _
                rw [← HN3.out, if_neg hd]
              go_wp2
              go_round
              case rel => exact ⟨k + 1, Z, by omega, by omega, by go_num, rfl, hZp, HF⟩
              case measure => simp [intOf]; omega
          · have h0' : 0 < (k : Int) := by omega
            by_cases hd0 : s[k].toNat = 0
            · have hd0' : ((s[k].toNat : Int) == 0) = true := by simp; omega
              have HF : Hid (readL s.data.toList = (0, 0, 4)) := by
                show _ = _
                rw [HR.out, ← HD.out, drop_at s k hsz, show 10 - k = 10 - (k + 1) + 1 by omega, rdZ, if_pos (by omega)]
                rfl
              try clear h9
              try clear h0
              try clear hd0
              go_wp2
              go_ret3
              exact ⟨by rw [HF.out]; rfl, rfl⟩
            · have hd0' : ((s[k].toNat : Int) == 0) = false := by simp; omega
              have hb := s[k].toNat_lt
              have hcond : ¬ ((k = 9 ∧ 1 < s[k].toNat) ∨ (0 < k ∧ s[k].toNat = 0)) := by omega
              obtain ⟨Z, hZ⟩ : ∃ Z, Z = z + s[k].toNat % 128 * 128 ^ k := ⟨_, rfl⟩
              have hbig := shl_or z s[k].toNat k (by omega) hz (by omega) (by omega)
              have hZlt := shl_lt z s[k].toNat k (by omega) hz (by omega)
              have hZp := shl_pow z s[k].toNat k hz
              have HN := hid (rdZ_step (10 - (k + 1)) k z s[k] (s.data.toList.drop (k + 1)) hcond)
              rw [← hZ] at hbig hZlt hZp HN
              rw [show 10 - (k + 1) + 1 = 10 - k by omega, ← drop_at s k hsz] at HN
              have HN2 := HN.out.symm.trans HD.out
              have HN3 := hid HN2
              clear HN HN2 hZ hcond hz
              try clear h9
              try clear h0
              try clear hd0
              by_cases hd : s[k].toNat < 128
              · have hd' : (s[k].toNat : Int) < 128 := by omega
                have HF : Hid (readL s.data.toList = (unzz Z, k + 1, 0)) := by
                  show _ = _
                  rw [HR.out, ← HN3.out, if_pos hd]
                  rfl
                go_wp2_with (go_at_call 65; refine (unfolded_any Z _ hZlt).mono ?_; rintro e w' ⟨rfl, rfl⟩)
                go_ret3
                exact ⟨by rw [HF.out]; go_num, rfl⟩
              · have hd' : ¬ (s[k].toNat : Int) < 128 := by omega
                have HF : Hid (rdZ (10 - (k + 1)) (k + 1) Z (s.data.toList.drop (k + 1)) = R) := by
                  show _ = _
                  rw [← HN3.out, if_neg hd]
                go_wp2
                go_round
                case rel => exact ⟨k + 1, Z, by omega, by omega, by go_num, rfl, hZp, HF⟩
                case measure => simp [intOf]; omega
      · have hsz' : ((k : Int) == (s.size : Int)) = true := by simp; omega
        have HF : Hid (readL s.data.toList = (0, 0, 5)) := by
          show _ = _
          rw [HR.out, ← HD.out, show 10 - k = 10 - (k + 1) + 1 by omega, List.drop_of_length_le (by simp; omega)]
          rfl
        go_wp2
        go_ret3
        exact ⟨by rw [HF.out]; rfl, rfl⟩
    · have hlt' : ¬ (k : Int) < 10 := by omega
      have HF : Hid (readL s.data.toList = (0, 0, 4)) := by
        show _ = _
        rw [HR.out, ← HD.out, show 10 - k = 0 by omega]
        rfl
      go_wp2
      go_ret3
      exact ⟨by rw [HF.out]; rfl, rfl⟩
end Go.Proofs.Ytjggdecjnnpjaaa

/- ReadInt of the document. -/
namespace Go.Proofs.Ytjggdecjnnpjaaa
open Go.RowKit Go.Maps
set_option linter.unusedSimpArgs false
set_option linter.unusedVariables false
set_option maxRecDepth 100000

theorem pow_lt64 (k : Nat) (hk : k ≤ 9) : 128 ^ k % 18446744073709551616 = 128 ^ k := by
  have h9' : (128 : Nat) ^ 9 = 9223372036854775808 := by decide
  have hp : 128 ^ k ≤ 128 ^ 9 := Nat.pow_le_pow_right (by omega) (by omega)
  exact Nat.mod_eq_of_lt (by omega)
theorem pow_next (k : Nat) (hk : k ≤ 9) : IntKind.u64.wrap (((128 ^ k % 18446744073709551616 : Nat) : Int) * 128) = ((128 ^ (k + 1) % 18446744073709551616 : Nat) : Int) := by
  rw [pow_lt64 k hk, IntKind.wrap_u64, Nat.pow_succ]
  omega
theorem mul_add (z d k : Nat) (hk : k ≤ 9) (hz : z < 128 ^ k) (h9 : k = 9 → d ≤ 1) :
    IntKind.u64.wrap ((z : Int) + IntKind.u64.wrap ((d : Int) % 128 * ((128 ^ k % 18446744073709551616 : Nat) : Int))) = ((z + d % 128 * 128 ^ k : Nat) : Int) := by
  have hlt := shl_lt z d k hk hz h9
  rw [pow_lt64 k hk, show (d : Int) % 128 = ((d % 128 : Nat) : Int) by omega, ← Int.natCast_mul]
  generalize d % 128 * 128 ^ k = M at *
  rw [IntKind.wrap_u64, IntKind.wrap_u64]
  omega

set_option maxHeartbeats 1600000 in
theorem rreadInt_any (s : ByteArray) (w : World) (hs : s.size ≤ maxLen) :
    Calls Try.prog 48 #[.string s] w fun e w' => e = .returned (.tuple #[.int .i64 (readL s.data.toList).1, .int .i64 ((readL s.data.toList).2.1 : Nat), .int .i64 (readL s.data.toList).2.2]) ∧ w = w' := by
  unfold maxLen at hs
  obtain ⟨R, hR⟩ : ∃ R, R = rdZ 10 0 0 s.data.toList := ⟨_, rfl⟩
  have HR : Hid (readL s.data.toList = okI R) := by show _ = _; rw [hR]; rfl
  have H0 : Hid (rdZ (10 - 0) 0 0 (s.data.toList.drop 0) = R) := hR.symm
  clear hR
  go_enter Try.func48, Try.ntmps48
  go_wp2
  go_loop [5, 6, 7] (fun c p i => ∃ k z : Nat, k ≤ 10 ∧ k ≤ s.size ∧ i = .int .i64 k ∧ c = .int .u64 z ∧ p = .int .u64 ((128 ^ k % 18446744073709551616 : Nat) : Int) ∧ z < 128 ^ k ∧ Hid (rdZ (10 - k) k z (s.data.toList.drop k) = R)) (fun _ _ i => 10 - (intOf i).toNat)
  case atStart => exact ⟨0, 0, Nat.zero_le _, Nat.zero_le _, rfl, rfl, rfl, by simp, H0⟩
  case round =>
    obtain ⟨k, z, hk, hks, rfl, rfl, rfl, hz, HD⟩ := hrel
    clear H0
    by_cases hlt : k < 10
    · have hlt' : (k : Int) < 10 := by omega
      by_cases hsz : k < s.size
      · have hsz' : ¬ (s.size : Int) ≤ (k : Int) := by omega
        have hb := s[k].toNat_lt
        by_cases h9 : k = 9
        · have h9' : ((k : Int) == 9) = true := by simp; omega
          by_cases hd1 : 1 < s[k].toNat
          · have hd1' : 1 < (s[k].toNat : Int) := by omega
            have HF : Hid (readL s.data.toList = (0, 0, 4)) := by
              show _ = _
              rw [HR.out, ← HD.out, drop_at s k hsz, show 10 - k = 10 - (k + 1) + 1 by omega, rdZ, if_pos (by omega)]
              rfl
            clear h9
            go_wp2
            go_ret3
            exact ⟨by rw [HF.out]; rfl, rfl⟩
          · have hd1' : ¬ 1 < (s[k].toNat : Int) := by omega
            obtain ⟨Z, hZ⟩ : ∃ Z, Z = z + s[k].toNat % 128 * 128 ^ k := ⟨_, rfl⟩
            have hbig := mul_add z s[k].toNat k (by omega) hz (by omega)
            have hpw := pow_next k (by omega)
            have hZlt := shl_lt z s[k].toNat k (by omega) hz (by omega)
            have hZp := shl_pow z s[k].toNat k hz
            rw [← hZ] at hbig hZlt hZp
            obtain ⟨P1, hP1⟩ : ∃ P1, P1 = 128 ^ (k + 1) % 18446744073709551616 := ⟨_, rfl⟩
            have HP1 := hid hP1
            rw [← hP1] at hpw
            clear hP1
            generalize 128 ^ k % 18446744073709551616 = P at *
            by_cases hd : s[k].toNat < 128
            · have hd' : ¬ 128 ≤ (s[k].toNat : Int) := by omega
              by_cases h0 : 0 < k
              · have h0' : 0 < (k : Int) := by omega
                by_cases hd0 : s[k].toNat = 0
                · have hd0' : ((s[k].toNat : Int) == 0) = true := by simp; omega
                  have HF : Hid (readL s.data.toList = (0, 0, 4)) := by
                    show _ = _
                    rw [HR.out, ← HD.out, drop_at s k hsz, show 10 - k = 10 - (k + 1) + 1 by omega, rdZ, if_pos (by omega)]
                    rfl
                  clear hd0 hZ h9 hd1
                  go_wp2
                  go_ret3
                  exact ⟨by rw [HF.out]; rfl, rfl⟩
                · have hd0' : ((s[k].toNat : Int) == 0) = false := by simp; omega
                  have HN := hid (rdZ_step (10 - (k + 1)) k z s[k] (s.data.toList.drop (k + 1)) (by omega))
                  rw [← hZ, show 10 - (k + 1) + 1 = 10 - k by omega, ← drop_at s k hsz] at HN
                  have HN3 := hid (HN.out.symm.trans HD.out)
                  clear HN
                  have HF : Hid (readL s.data.toList = (unzz Z, k + 1, 0)) := by
                    show _ = _
                    rw [HR.out, ← HN3.out, if_pos hd]
                    rfl
                  by_cases ho : Z % 2 = 1
                  · have ho' : ((Z : Int) % 2 == 1) = true := by simp; omega
                    have HU : Hid (unzz Z = -((Z : Int) / 2) - 1) := by show _ = _; unfold unzz; rw [if_pos ho]; omega
                    clear hZ ho hd0 h9 hd1
                    go_wp2
                    go_ret3
                    exact ⟨by rw [HF.out, HU.out]; go_num, rfl⟩
                  · have ho' : ((Z : Int) % 2 == 1) = false := by simp; omega
                    have HU : Hid (unzz Z = (Z : Int) / 2) := by show _ = _; unfold unzz; rw [if_neg ho]; omega
                    clear hZ ho hd0 h9 hd1
                    go_wp2
                    go_ret3
                    exact ⟨by rw [HF.out, HU.out]; go_num, rfl⟩
              · have h0' : ¬ 0 < (k : Int) := by omega
                omega
            · have hd' : 128 ≤ (s[k].toNat : Int) := by omega
              omega
        · have h9' : ((k : Int) == 9) = false := by simp; omega
          obtain ⟨Z, hZ⟩ : ∃ Z, Z = z + s[k].toNat % 128 * 128 ^ k := ⟨_, rfl⟩
          have hbig := mul_add z s[k].toNat k (by omega) hz (by omega)
          have hpw := pow_next k (by omega)
          have hZlt := shl_lt z s[k].toNat k (by omega) hz (by omega)
          have hZp := shl_pow z s[k].toNat k hz
          rw [← hZ] at hbig hZlt hZp
          obtain ⟨P1, hP1⟩ : ∃ P1, P1 = 128 ^ (k + 1) % 18446744073709551616 := ⟨_, rfl⟩
          have HP1 := hid hP1
          rw [← hP1] at hpw
          clear hP1
          generalize 128 ^ k % 18446744073709551616 = P at *
          by_cases hd : s[k].toNat < 128
          · have hd' : ¬ 128 ≤ (s[k].toNat : Int) := by omega
            by_cases h0 : 0 < k
            · have h0' : 0 < (k : Int) := by omega
              by_cases hd0 : s[k].toNat = 0
              · have hd0' : ((s[k].toNat : Int) == 0) = true := by simp; omega
                have HF : Hid (readL s.data.toList = (0, 0, 4)) := by
                  show _ = _
                  rw [HR.out, ← HD.out, drop_at s k hsz, show 10 - k = 10 - (k + 1) + 1 by omega, rdZ, if_pos (by omega)]
                  rfl
                clear hd0 hZ h9
                go_wp2
                go_ret3
                exact ⟨by rw [HF.out]; rfl, rfl⟩
              · have hd0' : ((s[k].toNat : Int) == 0) = false := by simp; omega
                have HN := hid (rdZ_step (10 - (k + 1)) k z s[k] (s.data.toList.drop (k + 1)) (by omega))
                rw [← hZ, show 10 - (k + 1) + 1 = 10 - k by omega, ← drop_at s k hsz] at HN
                have HN3 := hid (HN.out.symm.trans HD.out)
                clear HN
                have HF : Hid (readL s.data.toList = (unzz Z, k + 1, 0)) := by
                  show _ = _
                  rw [HR.out, ← HN3.out, if_pos hd]
                  rfl
                by_cases ho : Z % 2 = 1
                · have ho' : ((Z : Int) % 2 == 1) = true := by simp; omega
                  have HU : Hid (unzz Z = -((Z : Int) / 2) - 1) := by show _ = _; unfold unzz; rw [if_pos ho]; omega
                  clear hZ ho hd0 h9
                  go_wp2
                  go_ret3
                  exact ⟨by rw [HF.out, HU.out]; go_num, rfl⟩
                · have ho' : ((Z : Int) % 2 == 1) = false := by simp; omega
                  have HU : Hid (unzz Z = (Z : Int) / 2) := by show _ = _; unfold unzz; rw [if_neg ho]; omega
                  clear hZ ho hd0 h9
                  go_wp2
                  go_ret3
                  exact ⟨by rw [HF.out, HU.out]; go_num, rfl⟩
            · have h0' : ¬ 0 < (k : Int) := by omega
              have HN := hid (rdZ_step (10 - (k + 1)) k z s[k] (s.data.toList.drop (k + 1)) (by omega))
              rw [← hZ, show 10 - (k + 1) + 1 = 10 - k by omega, ← drop_at s k hsz] at HN
              have HN3 := hid (HN.out.symm.trans HD.out)
              clear HN
              have HF : Hid (readL s.data.toList = (unzz Z, k + 1, 0)) := by
                show _ = _
                rw [HR.out, ← HN3.out, if_pos hd]
                rfl
              by_cases ho : Z % 2 = 1
              · have ho' : ((Z : Int) % 2 == 1) = true := by simp; omega
                have HU : Hid (unzz Z = -((Z : Int) / 2) - 1) := by show _ = _; unfold unzz; rw [if_pos ho]; omega
                clear hZ ho h0 h9
                go_wp2
                go_ret3
                exact ⟨by rw [HF.out, HU.out]; go_num, rfl⟩
              · have ho' : ((Z : Int) % 2 == 1) = false := by simp; omega
                have HU : Hid (unzz Z = (Z : Int) / 2) := by show _ = _; unfold unzz; rw [if_neg ho]; omega
                clear hZ ho h0 h9
                go_wp2
                go_ret3
                exact ⟨by rw [HF.out, HU.out]; go_num, rfl⟩
          · have hd' : 128 ≤ (s[k].toNat : Int) := by omega
            have HN := hid (rdZ_step (10 - (k + 1)) k z s[k] (s.data.toList.drop (k + 1)) (by omega))
            rw [← hZ, show 10 - (k + 1) + 1 = 10 - k by omega, ← drop_at s k hsz] at HN
            have HN3 := hid (HN.out.symm.trans HD.out)
            clear HN
            have HF : Hid (rdZ (10 - (k + 1)) (k + 1) Z (s.data.toList.drop (k + 1)) = R) := by
              show _ = _
              rw [← HN3.out, if_neg hd]
            clear hZ h9
            go_wp2
            go_round
            case rel => exact ⟨k + 1, Z, by omega, by omega, by go_num, rfl, by rw [← HP1.out], hZp, HF⟩
            case measure => simp [intOf]; omega
      · have hsz' : (s.size : Int) ≤ (k : Int) := by omega
        have HF : Hid (readL s.data.toList = (0, 0, 5)) := by
          show _ = _
          rw [HR.out, ← HD.out, show 10 - k = 10 - (k + 1) + 1 by omega, List.drop_of_length_le (by simp; omega)]
          rfl
        go_wp2
        go_ret3
        exact ⟨by rw [HF.out]; rfl, rfl⟩
    · have hlt' : ¬ (k : Int) < 10 := by omega
      have HF : Hid (readL s.data.toList = (0, 0, 4)) := by
        show _ = _
        rw [HR.out, ← HD.out, show 10 - k = 0 by omega]
        rfl
      go_wp2
      go_ret3
      exact ⟨by rw [HF.out]; rfl, rfl⟩
end Go.Proofs.Ytjggdecjnnpjaaa

