/- The document's small functions. -/
import Derived.Test.YtkdbclnnmpnfgaaH6
import Derived.Test.YtkdbclnnmpnfgaaHRread
namespace Go.Proofs.Ytkdbclnnmpnfgaa
open Go.RowKit Go.Maps
set_option linter.unusedSimpArgs false
set_option linter.unusedVariables false
set_option maxRecDepth 100000

set_option maxHeartbeats 400000 in
theorem rcrc_any (s : ByteArray) (w : World) (hs : s.size ≤ maxLen) :
    Calls Try.prog 24 #[.string s] w fun e w' => e = .returned (.int .i64 (crcL s.data.toList : Nat)) ∧ w = w' := by
  unfold maxLen at hs
  go_enter Try.func24, Try.ntmps24
  go_wp2
  go_loop [3, 4] (fun c i => ∃ k : Nat, k ≤ s.size ∧ i = .int .i64 k ∧ c = .int .u32 ((crcRun 4294967295 (s.data.toList.take k) : Nat) : Int)) (fun _ i => s.size - (intOf i).toNat)
  case atStart => exact ⟨0, Nat.zero_le _, rfl, rfl⟩
  case round =>
    obtain ⟨k, hk, rfl, rfl⟩ := hrel
    have hc := crcRun_lt (s.data.toList.take k) 4294967295 (by omega)
    by_cases hlt : k < s.size
    · have hsn : Hid (crcRun 4294967295 (s.data.toList.take (k + 1)) = crcByte (crcRun 4294967295 (s.data.toList.take k)) s[k]) := by show _ = _; rw [take_snoc s k hlt, crcRun_snoc]
      generalize hC : crcRun 4294967295 (s.data.toList.take k) = C at *
      have hb := s[k].toNat_lt
      have hx := u32_xor_nat C s[k].toNat hc (by omega)
      clear hC
      go_wp2
      have hX := xor_lt C s[k].toNat hc (by omega)
      go_loop [3, 5] (fun c j => ∃ m : Nat, m ≤ 8 ∧ j = .int .i64 m ∧ c = .int .u32 ((crcBits m (C ^^^ s[k].toNat) : Nat) : Int)) (fun _ j => 8 - (intOf j).toNat)
      case atStart => exact ⟨0, Nat.zero_le _, rfl, rfl⟩
      case round =>
        obtain ⟨m, hm, rfl, rfl⟩ := hrel
        have hD := crcBits_lt (C ^^^ s[k].toNat) hX m
        by_cases hm8 : m < 8
        · have hst : Hid (crcBits (m + 1) (C ^^^ s[k].toNat) = crcBit (crcBits m (C ^^^ s[k].toNat))) := rfl
          clear hx
          generalize crcBits m (C ^^^ s[k].toNat) = D at *
          have hh := u32_xor_nat (D / 2) 2197175160 (by omega) (by omega)
          rw [show (((D / 2 : Nat) : Int)) = (D : Int) / 2 by omega, show (((2197175160 : Nat) : Int)) = 2197175160 by rfl] at hh
          have hm8' : (m : Int) < 8 := by omega
          by_cases hodd : D % 2 = 1
          · have hst2 : Hid (crcBits (m + 1) (C ^^^ s[k].toNat) = (D / 2) ^^^ 2197175160) := by show _ = _; rw [hst.out, crcBit, if_pos hodd]
            have ha : (D : Int) % 2 = 1 := by omega
            go_wp2
            go_round
            case rel => exact ⟨m + 1, by omega, by go_num, by rw [hst2.out]⟩
            case measure => simp [intOf]; omega
          · have hst2 : Hid (crcBits (m + 1) (C ^^^ s[k].toNat) = D / 2) := by show _ = _; rw [hst.out, crcBit, if_neg hodd]
            have ha : (D : Int) % 2 = 0 := by omega
            go_wp2
            go_round
            case rel => exact ⟨m + 1, by omega, by go_num, by rw [hst2.out]; go_num⟩
            case measure => simp [intOf]; omega
        · have hm8' : ¬ (m : Int) < 8 := by omega
          have hm9 : m = 8 := by omega
          subst hm9
          go_wp2
          go_round
          case rel => exact ⟨k + 1, by omega, by go_num, by rw [hsn.out]; rfl⟩
          case measure => simp [intOf]; omega
    · have he : s.data.toList.take k = s.data.toList := List.take_of_length_le (by simp; omega)
      have hx : bits .xor .u32 ((crcRun 4294967295 (s.data.toList.take k) : Nat) : Int) 4294967295 = ((crcL s.data.toList : Nat) : Int) := by
        rw [he, show (4294967295 : Int) = ((4294967295 : Nat) : Int) by rfl, u32_xor_nat _ _ (by rw [← he]; exact hc) (by omega)]; rfl
      have hcl := crcL_lt s.data.toList
      have hlt' : ¬ (k : Int) < (s.size : Int) := by omega
      clear he
      go_wp2
      go_ret
      exact ⟨rfl, rfl⟩

set_option maxHeartbeats 1600000 in
theorem rint_any (n : Int) (w : World) (hn : I64 n) : Calls Try.prog 52 #[.int .i64 n] w fun e w' => e = .returned (.string (strOf (intL n))) ∧ Below w.heap.size w w' := by
  obtain ⟨i0, hi0, hz0, hz1, hz2⟩ := info5
  have hz := zz_lt n hn.1 hn.2
  have H0 : Hid (IntAt w w.heap.size (.slice none 0 0) (intL n) 0 (zz n) [] (.slice none 0 0) w) := ⟨Row.nil _ _, by simp, rfl, hz, .refl _ _, .refl _ _⟩
  have htl : Hid ((intL n).length ≤ 10) := (intL_length n).2
  obtain ⟨h1, h2⟩ := hn
  by_cases hneg : n < 0
  · go_enter Try.func52, Try.ntmps52
    go_wp2
    go_loopg [3, 4] 10 (fun kx s3 s4 wr => ∃ (k z : Nat) (sv : Value) (m : List UInt8), k ≤ 9 ∧ 10 - k ≤ kx ∧ s3 = .int .u64 z ∧ sv = s4 ∧ Hid (IntAt w w.heap.size (.slice none 0 0) (intL n) k z m sv wr))
    case atStart => exact ⟨0, zz n, _, [], by omega, by omega, by rw [rz_neg n h1 hneg], rfl, H0⟩
    case round =>
      obtain ⟨k, z, sv, m, hk, hkx, rfl, rfl, HD⟩ := hrel
      have hml : m.length ≤ 10 := Nat.le_trans HD.out.len htl.out
      have hwr : w.heap.size ≤ wr.heap.size := HD.out.below.size
      have HR : Hid (∀ O, (wr.alloc O).ownsRow w.heap.size 5 1 sv m.length (u8c m)) := fun O => HD.out.row.alloc O
      clear H0 htl
      by_cases hzs : z < 128
      · have hzs' : ¬ 128 ≤ (z : Int) := by omega
        go_wp2_with (at_builtin; refine wpList_append_own_at _ rfl _ _ 85 rfl w.heap.size 5 i0 _ 1 1 Try.underlying85 hi0 hz0 hz1 hz2 rfl (by decide) _ m.length (u8c m) rfl (HR.out _) ⟨wr.heap.size, 0, none⟩ 1 1 [.int .u8 (z : Int)] rfl rfl (one_cell rfl) (by simp [Value.oneCell']) (by unfold maxLen; omega) (by omega) (by simp; omega) ?_; intro v' w2 hown2 hg2 _ hat; have HF := HD.out.last (Nat.le_refl _) hzs _ v' w2 hown2 hg2 hat; have hcv := HF.1.conv; obtain ⟨a, cap, hv⟩ := HF.1.shape; rw [hv] at hcv ⊢)
        go_ret
        exact ⟨rfl, HF.2.1⟩
      · have hzs' : 128 ≤ (z : Int) := by omega
        have hk9 : k < 9 := by
          rcases Nat.lt_or_ge k 9 with h | h
          · exact h
          · have := HD.out.small; rw [show 9 - k = 0 by omega] at this; simp at this; omega
        have hz64 : (z : Int) < 18446744073709551616 := by have := HD.out.lt64; omega
        have hX : Hid ((z : Int) % 128 + 128 = ((z % 128 + 128 : Nat) : Int)) := by show _ = _; omega
        go_wp2_with (at_builtin; refine wpList_append_own_at _ rfl _ _ 85 rfl w.heap.size 5 i0 _ 1 1 Try.underlying85 hi0 hz0 hz1 hz2 rfl (by decide) _ m.length (u8c m) rfl (HR.out _) ⟨wr.heap.size, 0, none⟩ 1 1 [.int .u8 ((z : Int) % 128 + 128)] rfl rfl (one_cell rfl) (by simp [Value.oneCell']) (by unfold maxLen; omega) (by omega) (by simp; omega) ?_; intro v' w2 hown2 hg2 _ hat)
        have HF := HD.out.next (Nat.le_refl _) hk9 hzs _ hX.out _ v' w2 hown2 hg2 hat
        go_roundg (10 - (k + 1))
        case measure => omega
        case rel => exact ⟨k + 1, z / 128, v', _, by omega, Nat.le_refl _, by go_num, rfl, HF⟩
  · go_enter Try.func52, Try.ntmps52
    go_wp2
    go_loopg [3, 4] 10 (fun kx s3 s4 wr => ∃ (k z : Nat) (sv : Value) (m : List UInt8), k ≤ 9 ∧ 10 - k ≤ kx ∧ s3 = .int .u64 z ∧ sv = s4 ∧ Hid (IntAt w w.heap.size (.slice none 0 0) (intL n) k z m sv wr))
    case atStart => exact ⟨0, zz n, _, [], by omega, by omega, by rw [rz_pos n (by omega)], rfl, H0⟩
    case round =>
      obtain ⟨k, z, sv, m, hk, hkx, rfl, rfl, HD⟩ := hrel
      have hml : m.length ≤ 10 := Nat.le_trans HD.out.len htl.out
      have hwr : w.heap.size ≤ wr.heap.size := HD.out.below.size
      have HR : Hid (∀ O, (wr.alloc O).ownsRow w.heap.size 5 1 sv m.length (u8c m)) := fun O => HD.out.row.alloc O
      clear H0 htl
      by_cases hzs : z < 128
      · have hzs' : ¬ 128 ≤ (z : Int) := by omega
        go_wp2_with (at_builtin; refine wpList_append_own_at _ rfl _ _ 85 rfl w.heap.size 5 i0 _ 1 1 Try.underlying85 hi0 hz0 hz1 hz2 rfl (by decide) _ m.length (u8c m) rfl (HR.out _) ⟨wr.heap.size, 0, none⟩ 1 1 [.int .u8 (z : Int)] rfl rfl (one_cell rfl) (by simp [Value.oneCell']) (by unfold maxLen; omega) (by omega) (by simp; omega) ?_; intro v' w2 hown2 hg2 _ hat; have HF := HD.out.last (Nat.le_refl _) hzs _ v' w2 hown2 hg2 hat; have hcv := HF.1.conv; obtain ⟨a, cap, hv⟩ := HF.1.shape; rw [hv] at hcv ⊢)
        go_ret
        exact ⟨rfl, HF.2.1⟩
      · have hzs' : 128 ≤ (z : Int) := by omega
        have hk9 : k < 9 := by
          rcases Nat.lt_or_ge k 9 with h | h
          · exact h
          · have := HD.out.small; rw [show 9 - k = 0 by omega] at this; simp at this; omega
        have hz64 : (z : Int) < 18446744073709551616 := by have := HD.out.lt64; omega
        have hX : Hid ((z : Int) % 128 + 128 = ((z % 128 + 128 : Nat) : Int)) := by show _ = _; omega
        go_wp2_with (at_builtin; refine wpList_append_own_at _ rfl _ _ 85 rfl w.heap.size 5 i0 _ 1 1 Try.underlying85 hi0 hz0 hz1 hz2 rfl (by decide) _ m.length (u8c m) rfl (HR.out _) ⟨wr.heap.size, 0, none⟩ 1 1 [.int .u8 ((z : Int) % 128 + 128)] rfl rfl (one_cell rfl) (by simp [Value.oneCell']) (by unfold maxLen; omega) (by omega) (by simp; omega) ?_; intro v' w2 hown2 hg2 _ hat)
        have HF := HD.out.next (Nat.le_refl _) hk9 hzs _ hX.out _ v' w2 hown2 hg2 hat
        go_roundg (10 - (k + 1))
        case measure => omega
        case rel => exact ⟨k + 1, z / 128, v', _, by omega, Nat.le_refl _, by go_num, rfl, HF⟩

set_option maxHeartbeats 400000 in
theorem rfour_any (n : Nat) (w : World) (h : n < 4294967296) : Calls Try.prog 23 #[.int .i64 (n : Int)] w fun e w' => e = .returned (.string (strOf (fourL n))) ∧ Below w.heap.size w w' := by
  have hcv := four_conv w n h
  go_enter Try.func23, Try.ntmps23
  go_wp2
  go_ret
  exact ⟨rfl, (Below.refl _ _).alloc (Nat.le_refl _) _⟩

end Go.Proofs.Ytkdbclnnmpnfgaa

