/- Replace of the disk. -/
import Derived.Test.YtjggdecjnnpjaaaGreatH2
import Derived.Test.YtjggdecjnnpjaaaGreatH0
namespace Go.Proofs.YtjggdecjnnpjaaaGreat
open Go.RowKit Go.Maps Go.Sort
set_option maxRecDepth 100000
set_option linter.unusedSimpArgs false
set_option linter.unusedVariables false

set_option maxHeartbeats 800000 in
theorem replace_ok {w : World} {S : Nat → Prop} {a size : Nat} {mo : Option Nat} {fs : List (List UInt8 × FileE)} (h : DiskM w S a size mo fs) (n b : ByteArray) (hn : n.size ≤ maxLen) (hname : nameB n = true)
    (hadm : (flook fs n.data.toList).isSome = true ∨ fs.length < 256) (hfit : b.size ≤ size - total fs + (bsAt fs n.data.toList).length) :
    Calls Tryz.prog 53 #[.pointer (some ⟨a, 0, none⟩), .string n, .string b] w fun e w' => e = .returned (.int .i64 0) ∧ ∃ f : FileE, f.bs = b.data.toList ∧ f.safe = b.size ∧ After S w w' a size (fput fs n.data.toList f) := by
  have hbsz : (b.data.toList).length = b.size := rfl
  have hsm := h.small
  have hroom := h.room
  have htl := total_fdel_le fs n.data.toList
  rw [lenAt_eq] at htl
  have HA := admit_ok h n hn hname hadm
  have HF : Hid (∀ W, Below w.heap.size w W → Calls Tryz.prog 67 #[.pointer (some ⟨a, 0, none⟩)] W fun e w' => e = .returned (.int .i64 ((size - total fs : Nat) : Int)) ∧ Below w.heap.size w w') := fun W hW =>
    (free_any (h.under hW)).mono (fun e w' ⟨h1, h2⟩ => ⟨h1, hW.trans (h2.mono hW.size)⟩)
  have HZ : Hid (∀ W, Below w.heap.size w W → Calls Tryz.prog 27 #[.pointer (some ⟨a, 0, none⟩), .string n] W fun e w' => e = .returned (.int .i64 ((bsAt fs n.data.toList).length : Int)) ∧ w' = W) := fun W hW => size_any (h.under hW) n hn
  have HP : Hid (∀ W, Below w.heap.size w W → Calls Tryz.prog 42 #[.pointer (some ⟨a, 0, none⟩), .string n, .agg #[.slice (some ⟨W.heap.size, 0, none⟩) b.size (grownCap W b.size 0 5), .int .i64 (b.size : Int)]] (Lib.bytesWorld W 5 b)
      fun e w' => e = .returned (.tuple #[]) ∧ ∃ f : FileE, f.bs = b.data.toList ∧ f.safe = b.size ∧ After S w w' a size (fput fs n.data.toList f)) := by
    intro W hW
    have hb1 := conv_below W b
    have hW1 : Below w.heap.size w (Lib.bytesWorld W 5 b) := hW.trans (hb1.mono hW.size)
    have hd : DiskM (Lib.bytesWorld W 5 b) (fun k => S k ∨ k = W.heap.size) a size mo fs := (h.under hW1).more (fun k hk => .inl hk) (fun k hk => by
      have hs := Lib.bytesWorld_size W 5 b
      have := hW.size
      rcases hk with hk | rfl
      · have := h.below k hk; omega
      · omega)
    have := put_any hd n hn ⟨.slice (some ⟨W.heap.size, 0, none⟩) b.size (grownCap W b.size 0 5), b.data.toList, b.size⟩ (bytesAt_conv W b (by omega) _ (.inr rfl)) (Nat.le_refl _)
      (fun p hp _ k hk hq => by
        have h1 := ((h.owns p hp).1.lt k hq).2
        have h2 := hW.size
        simp [Value.ownBlock] at hk
        omega) (by rw [total_fput]; simp only; omega) (few_fput _ hadm h.few)
    refine this.mono (fun e w' ⟨h1, h2⟩ => ⟨h1, ⟨.slice (some ⟨W.heap.size, 0, none⟩) b.size (grownCap W b.size 0 5), b.data.toList, b.size⟩, rfl, rfl, ?_⟩)
    refine After.then (Keeps.of_below hW1) (fun k hk => ?_) (fun k hk => .inl hk) h2
    rcases hk with hk | rfl
    · exact .inl hk
    · exact .inr hW.size
  have hcv := fun W => Lib.run_convert_string_bytes (P := Tryz.prog) W 9 77 5 b Tryz.underlying9 Tryz.underlying77 Tryz.underlying5
  have hlt : ¬ (((size - total fs : Nat) : Int) + ((bsAt fs n.data.toList).length : Int) < (b.size : Int)) := by omega
  have HA2 : Hid (Calls Tryz.prog 66 #[.pointer (some ⟨a, 0, none⟩), .string n] w fun e w' => e = .returned (.int .i64 0) ∧ Below w.heap.size w w') := HA
  have hl1 : (bsAt fs n.data.toList).length ≤ 16777216 := by omega
  have hl2 : size - total fs ≤ 16777216 := by omega
  clear h HA
  go_enter Tryz.func53, Tryz.ntmps53
  go_wp2_with (go_at_call 66; refine HA2.out.mono ?_; rintro e w1 ⟨rfl, hb1⟩)
  go_wp2_with (go_at_call 67; refine (HF.out _ hb1).mono ?_; rintro e w2 ⟨rfl, hb2⟩)
  go_wp2_with (go_at_call 27; refine (HZ.out _ hb2).mono ?_; rintro e w3 ⟨rfl, rfl⟩)
  go_wp2_with (go_at_call 42; refine (HP.out _ hb2).mono ?_; rintro e w4 ⟨rfl, hA⟩)
  go_ret
  exact ⟨rfl, hA⟩

set_option maxHeartbeats 400000 in
theorem replace_full {w : World} {S : Nat → Prop} {a size : Nat} {mo : Option Nat} {fs : List (List UInt8 × FileE)} (h : DiskM w S a size mo fs) (n b : ByteArray) (hn : n.size ≤ maxLen) (hb : b.size ≤ maxLen) (hname : nameB n = true)
    (hadm : (flook fs n.data.toList).isSome = true ∨ fs.length < 256) (hfit : size - total fs + (bsAt fs n.data.toList).length < b.size) :
    Calls Tryz.prog 53 #[.pointer (some ⟨a, 0, none⟩), .string n, .string b] w fun e w' => e = .returned (.int .i64 7) ∧ Below w.heap.size w w' := by
  unfold maxLen at hb
  have hsm := h.small
  have hroom := h.room
  have htl := total_fdel_le fs n.data.toList
  rw [lenAt_eq] at htl
  have HA : Hid (Calls Tryz.prog 66 #[.pointer (some ⟨a, 0, none⟩), .string n] w fun e w' => e = .returned (.int .i64 0) ∧ Below w.heap.size w w') := admit_ok h n hn hname hadm
  have HF : Hid (∀ W, Below w.heap.size w W → Calls Tryz.prog 67 #[.pointer (some ⟨a, 0, none⟩)] W fun e w' => e = .returned (.int .i64 ((size - total fs : Nat) : Int)) ∧ Below w.heap.size w w') := fun W hW =>
    (free_any (h.under hW)).mono (fun e w' ⟨h1, h2⟩ => ⟨h1, hW.trans (h2.mono hW.size)⟩)
  have HZ : Hid (∀ W, Below w.heap.size w W → Calls Tryz.prog 27 #[.pointer (some ⟨a, 0, none⟩), .string n] W fun e w' => e = .returned (.int .i64 ((bsAt fs n.data.toList).length : Int)) ∧ w' = W) := fun W hW => size_any (h.under hW) n hn
  have hlt : (((size - total fs : Nat) : Int) + ((bsAt fs n.data.toList).length : Int) < (b.size : Int)) := by omega
  have hl1 : (bsAt fs n.data.toList).length ≤ 16777216 := by omega
  have hl2 : size - total fs ≤ 16777216 := by omega
  clear h
  go_enter Tryz.func53, Tryz.ntmps53
  go_wp2_with (go_at_call 66; refine HA.out.mono ?_; rintro e w1 ⟨rfl, hb1⟩)
  go_wp2_with (go_at_call 67; refine (HF.out _ hb1).mono ?_; rintro e w2 ⟨rfl, hb2⟩)
  go_wp2_with (go_at_call 27; refine (HZ.out _ hb2).mono ?_; rintro e w3 ⟨rfl, rfl⟩)
  go_ret
  exact ⟨rfl, hb2⟩

set_option maxHeartbeats 400000 in
theorem replace_not {w : World} {S : Nat → Prop} {a size : Nat} {mo : Option Nat} {fs : List (List UInt8 × FileE)} (h : DiskM w S a size mo fs) (n b : ByteArray) (hn : n.size ≤ maxLen) (hE : admE (abs fs) n ≠ 0) :
    Calls Tryz.prog 53 #[.pointer (some ⟨a, 0, none⟩), .string n, .string b] w fun e w' => e = .returned (.int .i64 (admE (abs fs) n : Int)) ∧ Below w.heap.size w w' := by
  have HA : Hid (Calls Tryz.prog 66 #[.pointer (some ⟨a, 0, none⟩), .string n] w fun e w' => e = .returned (.int .i64 (admE (abs fs) n : Int)) ∧ Below w.heap.size w w') := admit_any h n hn
  generalize admE (abs fs) n = E at *
  have hne : (((E : Nat) : Int) != 0) = true := by simp; omega
  clear h hE
  go_enter Tryz.func53, Tryz.ntmps53
  go_wp2_with (go_at_call 66; refine HA.out.mono ?_; rintro e w1 ⟨rfl, hb1⟩)
  go_ret
  exact ⟨rfl, hb1⟩

theorem replaceA {w : World} {S : Nat → Prop} {a size : Nat} {l : List AF} (h : DiskA w S a size l) (n b : ByteArray) (hn : n.size ≤ maxLen) (hb : b.size ≤ maxLen) :
    Calls Tryz.prog 53 #[.pointer (some ⟨a, 0, none⟩), .string n, .string b] w fun e w' => e = .returned (.int .i64 (repE size l n b : Int)) ∧ AfterA S w w' a size (repL size l n b) := by
  obtain ⟨mo, fs, hd, rfl⟩ := h
  unfold repE repL
  rw [total_abs, abytes_abs]
  by_cases hE : admE (abs fs) n = 0
  · obtain ⟨h1, h2⟩ := admE_zero hE
    rw [if_pos hE]
    by_cases hf : b.size ≤ size - total fs + (bsAt fs n.data.toList).length
    · rw [if_pos hf, if_pos ⟨hE, hf⟩]
      refine (replace_ok hd n b hn h1 h2 hf).mono (fun e w' ⟨he, f, hf1, hf2, hA⟩ => ⟨by rw [he]; rfl, hA.abs' ?_⟩)
      rw [abs_fput, hf1, hf2]
    · rw [if_neg hf, if_neg (fun h => hf h.2)]
      exact (replace_full hd n b hn hb h1 h2 (by omega)).mono (fun e w' ⟨he, hb⟩ => ⟨by rw [he]; rfl, AfterA.same ⟨mo, fs, hd, rfl⟩ hb⟩)
  · rw [if_neg hE, if_neg (fun h => hE h.1)]
    exact (replace_not hd n b hn hE).mono (fun e w' ⟨he, hb⟩ => ⟨he, AfterA.same ⟨mo, fs, hd, rfl⟩ hb⟩)

end Go.Proofs.YtjggdecjnnpjaaaGreat

/- ReadInt of both. -/
namespace Go.Proofs.YtjggdecjnnpjaaaGreat
open Go.RowKit Go.Maps
set_option linter.unusedSimpArgs false
set_option linter.unusedVariables false
set_option maxRecDepth 100000

theorem drop_at (s : ByteArray) (k : Nat) (h : k < s.size) : s.data.toList.drop k = s[k] :: s.data.toList.drop (k + 1) := by
  rw [List.drop_eq_getElem_cons (by simpa using h)]; rfl

theorem and127 : ∀ x : Nat, x < 256 → x &&& 127 = x % 128 := fun x _ => nat_mask7 x
theorem pow_two (k : Nat) : (2 : Int) ^ (7 * k) = ((128 ^ k : Nat) : Int) := by
  rw [Int.pow_mul]; norm_cast
theorem shl_lt (z d k : Nat) (hk : k ≤ 9) (hz : z < 128 ^ k) (h9 : k = 9 → d ≤ 1) : z + d % 128 * 128 ^ k < 18446744073709551616 := by
  have h9' : (128 : Nat) ^ 9 = 9223372036854775808 := by decide
  by_cases h : k = 9
  · subst h
    have : d % 128 * 128 ^ 9 ≤ 1 * 128 ^ 9 := Nat.mul_le_mul_right _ (by have := h9 rfl; omega)
    omega
  · have hp8 : 128 ^ k ≤ 128 ^ 8 := Nat.pow_le_pow_right (by omega) (by omega)
    have h8 : (128 : Nat) ^ 8 = 72057594037927936 := by decide
    have : d % 128 * 128 ^ k ≤ 127 * 128 ^ k := Nat.mul_le_mul_right _ (by omega)
    omega
theorem shl_pow (z d k : Nat) (hz : z < 128 ^ k) : z + d % 128 * 128 ^ k < 128 ^ (k + 1) := by
  have : d % 128 * 128 ^ k ≤ 127 * 128 ^ k := Nat.mul_le_mul_right _ (by omega)
  rw [Nat.pow_succ]
  omega
theorem shl_or (z d k : Nat) (hk : k ≤ 9) (hz : z < 128 ^ k) (hd : d < 256) (h9 : k = 9 → d ≤ 1) :
    bits .or .u64 (z : Int) (IntKind.u64.wrap (IntKind.u64.wrap (bits .and .u8 (d : Int) 127) * 2 ^ (7 * k))) = ((z + d % 128 * 128 ^ k : Nat) : Int) := by
  have hlt := shl_lt z d k hk hz h9
  have e1 : bits .and .u8 (d : Int) 127 = ((d % 128 : Nat) : Int) := by
    have := u8_and_nat d 127 hd (by omega)
    rw [nat_mask7] at this
    exact this
  have e2 : IntKind.u64.wrap ((d % 128 : Nat) : Int) = ((d % 128 : Nat) : Int) := by rw [IntKind.wrap_u64]; omega
  have e3 : IntKind.u64.wrap (((d % 128 * 128 ^ k : Nat) : Int)) = ((d % 128 * 128 ^ k : Nat) : Int) := by rw [IntKind.wrap_u64]; omega
  rw [e1, e2, pow_two, ← Int.natCast_mul, e3, u64_or_nat _ _ (by omega) (by omega)]
  have hj := nat_join (7 * k) (d % 128 * 128 ^ k) z (by rw [Nat.pow_mul]; exact Nat.mul_mod_left _ _) (by rw [Nat.pow_mul]; exact hz)
  rw [Nat.or_comm, hj, Nat.add_comm]
theorem rdZ_step (f k z : Nat) (d : UInt8) (r : List UInt8) (h : ¬ ((k = 9 ∧ 1 < d.toNat) ∨ (0 < k ∧ d.toNat = 0))) :
    rdZ (f + 1) k z (d :: r) = if d.toNat < 128 then (z + d.toNat % 128 * 128 ^ k, k + 1, 0) else rdZ f (k + 1) (z + d.toNat % 128 * 128 ^ k) r := by
  rw [rdZ, if_neg h]
  by_cases hd : d.toNat < 128
  · rw [if_pos hd, if_pos hd, Nat.mod_eq_of_lt hd]
  · rw [if_neg hd, if_neg hd]

set_option maxHeartbeats 1600000 in
theorem readInt_any (s : ByteArray) (w : World) (hs : s.size ≤ maxLen) :
    Calls Tryz.prog 81 #[.string s] w fun e w' => e = .returned (.tuple #[.int .i64 (readL s.data.toList).1, .int .i64 ((readL s.data.toList).2.1 : Nat), .int .i64 (readL s.data.toList).2.2]) ∧ w = w' := by
  unfold maxLen at hs
  obtain ⟨R, hR⟩ : ∃ R, R = rdZ 10 0 0 s.data.toList := ⟨_, rfl⟩
  have HR : Hid (readL s.data.toList = okI R) := by show _ = _; rw [hR]; rfl
  have H0 : Hid (rdZ (10 - 0) 0 0 (s.data.toList.drop 0) = R) := hR.symm
  clear hR
  go_enter Tryz.func81, Tryz.ntmps81
  go_wp2
  go_loop [5, 8] (fun c i => ∃ k z : Nat, k ≤ 10 ∧ k ≤ s.size ∧ i = .int .i64 k ∧ c = .int .u64 z ∧ z < 128 ^ k ∧ Hid (rdZ (10 - k) k z (s.data.toList.drop k) = R)) (fun _ i => 10 - (intOf i).toNat)
  case atStart => exact ⟨0, 0, Nat.zero_le _, Nat.zero_le _, rfl, rfl, by simp, H0⟩
  case round =>
    obtain ⟨k, z, hk, hks, rfl, rfl, hz, HD⟩ := hrel
    clear H0
    by_cases hlt : k < 10
    · have hlt' : (k : Int) < 10 := by omega
      by_cases hsz : k < s.size
      · have hsz' : ((k : Int) == (s.size : Int)) = false := by simp; omega
        by_cases h9 : k = 9
        · have h9' : ((k : Int) == 9) = true := by simp; omega
          by_cases hd1 : 1 < s[k].toNat
          · have hd1' : 1 < (s[k].toNat : Int) := by omega
            have HF : Hid (readL s.data.toList = (0, 0, 4)) := by
              show _ = _
              rw [HR.out, ← HD.out, drop_at s k hsz, show 10 - k = 10 - (k + 1) + 1 by omega, rdZ, if_pos (by omega)]
              rfl
            try clear h9
            try clear h0
            try clear hd0
            go_wp2
            go_ret3
            exact ⟨by rw [HF.out]; rfl, rfl⟩
          · have hd1' : ¬ 1 < (s[k].toNat : Int) := by omega
            have h0' : 0 < (k : Int) := by omega
            by_cases hd0 : s[k].toNat = 0
            · have hd0' : ((s[k].toNat : Int) == 0) = true := by simp; omega
              have HF : Hid (readL s.data.toList = (0, 0, 4)) := by
                show _ = _
                rw [HR.out, ← HD.out, drop_at s k hsz, show 10 - k = 10 - (k + 1) + 1 by omega, rdZ, if_pos (by omega)]
                rfl
              try clear h9
              try clear h0
              try clear hd0
              go_wp2
              go_ret3
              exact ⟨by rw [HF.out]; rfl, rfl⟩
            · have hd0' : ((s[k].toNat : Int) == 0) = false := by simp; omega
              have hb := s[k].toNat_lt
              have hcond : ¬ ((k = 9 ∧ 1 < s[k].toNat) ∨ (0 < k ∧ s[k].toNat = 0)) := by omega
              obtain ⟨Z, hZ⟩ : ∃ Z, Z = z + s[k].toNat % 128 * 128 ^ k := ⟨_, rfl⟩
              have hbig := shl_or z s[k].toNat k (by omega) hz (by omega) (by omega)
              have hZlt := shl_lt z s[k].toNat k (by omega) hz (by omega)
              have hZp := shl_pow z s[k].toNat k hz
              have HN := hid (rdZ_step (10 - (k + 1)) k z s[k] (s.data.toList.drop (k + 1)) hcond)
              rw [← hZ] at hbig hZlt hZp HN
              rw [show 10 - (k + 1) + 1 = 10 - k by omega, ← drop_at s k hsz] at HN
              have HN2 := HN.out.symm.trans HD.out
              have HN3 := hid HN2
              clear HN HN2 hZ hcond hz
              try clear h9
              try clear h0
              try clear hd0
              by_cases hd : s[k].toNat < 128
              · have hd' : (s[k].toNat : Int) < 128 := by omega
                have HF : Hid (readL s.data.toList = (unzz Z, k + 1, 0)) := by
                  show _ = _
                  rw [HR.out, ← HN3.out, if_pos hd]
                  rfl
                go_wp2_with (go_at_call 89; refine (unfolded_any Z _ hZlt).mono ?_; rintro e w' ⟨rfl, rfl⟩)
                go_ret3
                exact ⟨by rw [HF.out]; go_num, rfl⟩
              · omega
        · have h9' : ((k : Int) == 9) = false := by simp; omega
          by_cases h0 : k = 0
          · have h0' : ¬ 0 < (k : Int) := by omega
            have hb := s[k].toNat_lt
            have hcond : ¬ ((k = 9 ∧ 1 < s[k].toNat) ∨ (0 < k ∧ s[k].toNat = 0)) := by omega
            obtain ⟨Z, hZ⟩ : ∃ Z, Z = z + s[k].toNat % 128 * 128 ^ k := ⟨_, rfl⟩
            have hbig := shl_or z s[k].toNat k (by omega) hz (by omega) (by omega)
            have hZlt := shl_lt z s[k].toNat k (by omega) hz (by omega)
            have hZp := shl_pow z s[k].toNat k hz
            have HN := hid (rdZ_step (10 - (k + 1)) k z s[k] (s.data.toList.drop (k + 1)) hcond)
            rw [← hZ] at hbig hZlt hZp HN
            rw [show 10 - (k + 1) + 1 = 10 - k by omega, ← drop_at s k hsz] at HN
            have HN2 := HN.out.symm.trans HD.out
            have HN3 := hid HN2
            clear HN HN2 hZ hcond hz
            try clear h9
            try clear h0
            try clear hd0
            by_cases hd : s[k].toNat < 128
            · have hd' : (s[k].toNat : Int) < 128 := by omega
              have HF : Hid (readL s.data.toList = (unzz Z, k + 1, 0)) := by
                show _ = _
                rw [HR.out, ← HN3.out, if_pos hd]
                rfl
              go_wp2_with (go_at_call 89; refine (unfolded_any Z _ hZlt).mono ?_; rintro e w' ⟨rfl, rfl⟩)
              go_ret3
              exact ⟨by rw [HF.out]; go_num, rfl⟩
            · have hd' : ¬ (s[k].toNat : Int) < 128 := by omega
              have HF : Hid (rdZ (10 - (k + 1)) (k + 1) Z (s.data.toList.drop (k + 1)) = R) := by
                show _ = _
                rw [← HN3.out, if_neg hd]
              go_wp2
              go_round
              case rel => exact ⟨k + 1, Z, by omega, by omega, by go_num, rfl, hZp, HF⟩
              case measure => simp [intOf]; omega
          · have h0' : 0 < (k : Int) := by omega
            by_cases hd0 : s[k].toNat = 0
            · have hd0' : ((s[k].toNat : Int) == 0) = true := by simp; omega
              have HF : Hid (readL s.data.toList = (0, 0, 4)) := by
                show _ = _
                rw [HR.out, ← HD.out, drop_at s k hsz, show 10 - k = 10 - (k + 1) + 1 by omega, rdZ, if_pos (by omega)]
                rfl
              try clear h9
              try clear h0
              try clear hd0
              go_wp2
              go_ret3
              exact ⟨by rw [HF.out]; rfl, rfl⟩
            · have hd0' : ((s[k].toNat : Int) == 0) = false := by simp; omega
              have hb := s[k].toNat_lt
              have hcond : ¬ ((k = 9 ∧ 1 < s[k].toNat) ∨ (0 < k ∧ s[k].toNat = 0)) := by omega
              obtain ⟨Z, hZ⟩ : ∃ Z, Z = z + s[k].toNat % 128 * 128 ^ k := ⟨_, rfl⟩
              have hbig := shl_or z s[k].toNat k (by omega) hz (by omega) (by omega)
              have hZlt := shl_lt z s[k].toNat k (by omega) hz (by omega)
              have hZp := shl_pow z s[k].toNat k hz
              have HN := hid (rdZ_step (10 - (k + 1)) k z s[k] (s.data.toList.drop (k + 1)) hcond)
              rw [← hZ] at hbig hZlt hZp HN
              rw [show 10 - (k + 1) + 1 = 10 - k by omega, ← drop_at s k hsz] at HN
              have HN2 := HN.out.symm.trans HD.out
              have HN3 := hid HN2
              clear HN HN2 hZ hcond hz
              try clear h9
              try clear h0
              try clear hd0
              by_cases hd : s[k].toNat < 128
              · have hd' : (s[k].toNat : Int) < 128 := by omega
                have HF : Hid (readL s.data.toList = (unzz Z, k + 1, 0)) := by
                  show _ = _
                  rw [HR.out, ← HN3.out, if_pos hd]
                  rfl
                go_wp2_with (go_at_call 89; refine (unfolded_any Z _ hZlt).mono ?_; rintro e w' ⟨rfl, rfl⟩)
                go_ret3
                exact ⟨by rw [HF.out]; go_num, rfl⟩
              · have hd' : ¬ (s[k].toNat : Int) < 128 := by omega
                have HF : Hid (rdZ (10 - (k + 1)) (k + 1) Z (s.data.toList.drop (k + 1)) = R) := by
                  show _ = _
                  rw [← HN3.out, if_neg hd]
                go_wp2
                go_round
                case rel => exact ⟨k + 1, Z, by omega, by omega, by go_num, rfl, hZp, HF⟩
                case measure => simp [intOf]; omega
      · have hsz' : ((k : Int) == (s.size : Int)) = true := by simp; omega
        have HF : Hid (readL s.data.toList = (0, 0, 5)) := by
          show _ = _
          rw [HR.out, ← HD.out, show 10 - k = 10 - (k + 1) + 1 by omega, List.drop_of_length_le (by simp; omega)]
          rfl
        go_wp2
        go_ret3
        exact ⟨by rw [HF.out]; rfl, rfl⟩
    · have hlt' : ¬ (k : Int) < 10 := by omega
      have HF : Hid (readL s.data.toList = (0, 0, 4)) := by
        show _ = _
        rw [HR.out, ← HD.out, show 10 - k = 0 by omega]
        rfl
      go_wp2
      go_ret3
      exact ⟨by rw [HF.out]; rfl, rfl⟩
end Go.Proofs.YtjggdecjnnpjaaaGreat

