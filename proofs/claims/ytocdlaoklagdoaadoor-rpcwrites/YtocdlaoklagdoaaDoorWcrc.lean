/- What the two checksums do. -/
import Derived.Test.YtocdlaoklagdoaaDoorRows
import Derived.Test.YtocdlaoklagdoaaDoorCodec
import Derived.WalkKit
import Derived.WalkSpells
import Derived.WalkLawsBesides
import Derived.Laws.BitsAll
namespace Go.Proofs.YtocdlaoklagdoaaDoor
open Go.RowKit Go.Maps
set_option linter.unusedSimpArgs false
set_option linter.unusedVariables false
set_option maxRecDepth 100000

theorem ret_int {k : IntKind} {a b : Int} (h : a = b) : Ending.returned (.int k a) = .returned (.int k b) := by rw [h]
theorem ret_bool {a b : Bool} (h : a = b) : Ending.returned (.bool a) = .returned (.bool b) := by rw [h]

theorem take_snoc (s : ByteArray) (k : Nat) (h : k < s.size) : s.data.toList.take (k + 1) = s.data.toList.take k ++ [s[k]] := by
  rw [List.take_succ_eq_append_getElem (by simpa using h)]; rfl

set_option maxHeartbeats 400000 in
theorem crc_any (s : ByteArray) (w : World) (hs : s.size ≤ maxLen) :
    Calls Tryd.prog 23 #[.string s] w fun e w' => e = .returned (.int .i64 (crcL s.data.toList : Nat)) ∧ w = w' := by
  unfold maxLen at hs
  go_enter Tryd.func23, Tryd.ntmps23
  go_wp2
  go_loop [3, 8] (fun c i => ∃ k : Nat, k ≤ s.size ∧ i = .int .i64 k ∧ c = .int .u32 ((crcRun 4294967295 (s.data.toList.take k) : Nat) : Int)) (fun _ i => s.size - (intOf i).toNat)
  case atStart => exact ⟨0, Nat.zero_le _, rfl, rfl⟩
  case round =>
    obtain ⟨k, hk, rfl, rfl⟩ := hrel
    have hc := crcRun_lt (s.data.toList.take k) 4294967295 (by omega)
    by_cases hlt : k < s.size
    · have hsn : Hid (crcRun 4294967295 (s.data.toList.take (k + 1)) = crcByte (crcRun 4294967295 (s.data.toList.take k)) s[k]) := by show _ = _; rw [take_snoc s k hlt, crcRun_snoc]
      generalize hC : crcRun 4294967295 (s.data.toList.take k) = C at *
      have hb := s[k].toNat_lt
      have hx := u32_xor_nat C s[k].toNat hc (by omega)
      clear hC
      go_wp2
      have hX := xor_lt C s[k].toNat hc (by omega)
      go_loop [3, 17] (fun c j => ∃ m : Nat, m ≤ 8 ∧ j = .int .i64 m ∧ c = .int .u32 ((crcBits m (C ^^^ s[k].toNat) : Nat) : Int)) (fun _ j => 8 - (intOf j).toNat)
      case atStart => exact ⟨0, Nat.zero_le _, rfl, rfl⟩
      case round =>
        obtain ⟨m, hm, rfl, rfl⟩ := hrel
        have hD := crcBits_lt (C ^^^ s[k].toNat) hX m
        by_cases hm8 : m < 8
        · have hst : Hid (crcBits (m + 1) (C ^^^ s[k].toNat) = crcBit (crcBits m (C ^^^ s[k].toNat))) := rfl
          clear hx
          generalize crcBits m (C ^^^ s[k].toNat) = D at *
          have hh := u32_xor_nat (D / 2) 2197175160 (by omega) (by omega)
          rw [show (((D / 2 : Nat) : Int)) = (D : Int) / 2 by omega, show (((2197175160 : Nat) : Int)) = 2197175160 by rfl] at hh
          have hm8' : (m : Int) < 8 := by omega
          by_cases hodd : D % 2 = 1
          · have hst2 : Hid (crcBits (m + 1) (C ^^^ s[k].toNat) = (D / 2) ^^^ 2197175160) := by show _ = _; rw [hst.out, crcBit, if_pos hodd]
            have ha : bits .and .u32 (D : Int) 1 = 1 := by have := u32_and_nat D 1 (by omega) (by omega); rw [nat_mask1] at this; rw [show (((1 : Nat) : Int)) = 1 by rfl] at this; rw [this]; omega
            go_wp2
            go_round
            case rel => exact ⟨m + 1, by omega, by go_num, by rw [hst2.out]⟩
            case measure => simp [intOf]; omega
          · have hst2 : Hid (crcBits (m + 1) (C ^^^ s[k].toNat) = D / 2) := by show _ = _; rw [hst.out, crcBit, if_neg hodd]
            have ha : bits .and .u32 (D : Int) 1 = 0 := by have := u32_and_nat D 1 (by omega) (by omega); rw [nat_mask1] at this; rw [show (((1 : Nat) : Int)) = 1 by rfl] at this; rw [this]; omega
            go_wp2
            go_round
            case rel => exact ⟨m + 1, by omega, by go_num, by rw [hst2.out]; go_num⟩
            case measure => simp [intOf]; omega
        · have hm8' : ¬ (m : Int) < 8 := by omega
          have hm9 : m = 8 := by omega
          subst hm9
          go_wp2
          go_round
          case rel => exact ⟨k + 1, by omega, by go_num, by rw [hsn.out]; rfl⟩
          case measure => simp [intOf]; omega
    · have he : s.data.toList.take k = s.data.toList := List.take_of_length_le (by simp; omega)
      have hx : bits .xor .u32 IntKind.u32.max ((crcRun 4294967295 (s.data.toList.take k) : Nat) : Int) = ((crcL s.data.toList : Nat) : Int) := by
        rw [he, show IntKind.u32.max = ((4294967295 : Nat) : Int) by decide, u32_xor_nat _ _ (by omega) (by rw [← he]; exact hc), Nat.xor_comm]; rfl
      have hcl := crcL_lt s.data.toList
      have hlt' : ¬ (k : Int) < (s.size : Int) := by omega
      clear he
      go_wp2
      go_ret
      exact ⟨ret_int (IntWalk.wrap64_in _ ⟨by omega, by omega⟩), rfl⟩

set_option maxHeartbeats 400000 in
theorem rcrc_any (s : ByteArray) (w : World) (hs : s.size ≤ maxLen) :
    Calls Tryd.prog 14 #[.string s] w fun e w' => e = .returned (.int .i64 (crcL s.data.toList : Nat)) ∧ w = w' := by
  unfold maxLen at hs
  go_enter Tryd.func14, Tryd.ntmps14
  go_wp2
  go_loop [3, 4] (fun c i => ∃ k : Nat, k ≤ s.size ∧ i = .int .i64 k ∧ c = .int .u32 ((crcRun 4294967295 (s.data.toList.take k) : Nat) : Int)) (fun _ i => s.size - (intOf i).toNat)
  case atStart => exact ⟨0, Nat.zero_le _, rfl, rfl⟩
  case round =>
    obtain ⟨k, hk, rfl, rfl⟩ := hrel
    have hc := crcRun_lt (s.data.toList.take k) 4294967295 (by omega)
    by_cases hlt : k < s.size
    · have hsn : Hid (crcRun 4294967295 (s.data.toList.take (k + 1)) = crcByte (crcRun 4294967295 (s.data.toList.take k)) s[k]) := by show _ = _; rw [take_snoc s k hlt, crcRun_snoc]
      generalize hC : crcRun 4294967295 (s.data.toList.take k) = C at *
      have hb := s[k].toNat_lt
      have hx := u32_xor_nat C s[k].toNat hc (by omega)
      clear hC
      go_wp2
      have hX := xor_lt C s[k].toNat hc (by omega)
      go_loop [3, 5] (fun c j => ∃ m : Nat, m ≤ 8 ∧ j = .int .i64 m ∧ c = .int .u32 ((crcBits m (C ^^^ s[k].toNat) : Nat) : Int)) (fun _ j => 8 - (intOf j).toNat)
      case atStart => exact ⟨0, Nat.zero_le _, rfl, rfl⟩
      case round =>
        obtain ⟨m, hm, rfl, rfl⟩ := hrel
        have hD := crcBits_lt (C ^^^ s[k].toNat) hX m
        by_cases hm8 : m < 8
        · have hst : Hid (crcBits (m + 1) (C ^^^ s[k].toNat) = crcBit (crcBits m (C ^^^ s[k].toNat))) := rfl
          clear hx
          generalize crcBits m (C ^^^ s[k].toNat) = D at *
          have hh := u32_xor_nat (D / 2) 2197175160 (by omega) (by omega)
          rw [show (((D / 2 : Nat) : Int)) = (D : Int) / 2 by omega, show (((2197175160 : Nat) : Int)) = 2197175160 by rfl] at hh
          have hm8' : (m : Int) < 8 := by omega
          by_cases hodd : D % 2 = 1
          · have hst2 : Hid (crcBits (m + 1) (C ^^^ s[k].toNat) = (D / 2) ^^^ 2197175160) := by show _ = _; rw [hst.out, crcBit, if_pos hodd]
            have ha : (D : Int) % 2 = 1 := by omega
            go_wp2
            go_round
            case rel => exact ⟨m + 1, by omega, by go_num, by rw [hst2.out]⟩
            case measure => simp [intOf]; omega
          · have hst2 : Hid (crcBits (m + 1) (C ^^^ s[k].toNat) = D / 2) := by show _ = _; rw [hst.out, crcBit, if_neg hodd]
            have ha : (D : Int) % 2 = 0 := by omega
            go_wp2
            go_round
            case rel => exact ⟨m + 1, by omega, by go_num, by rw [hst2.out]; go_num⟩
            case measure => simp [intOf]; omega
        · have hm8' : ¬ (m : Int) < 8 := by omega
          have hm9 : m = 8 := by omega
          subst hm9
          go_wp2
          go_round
          case rel => exact ⟨k + 1, by omega, by go_num, by rw [hsn.out]; rfl⟩
          case measure => simp [intOf]; omega
    · have he : s.data.toList.take k = s.data.toList := List.take_of_length_le (by simp; omega)
      have hx : bits .xor .u32 ((crcRun 4294967295 (s.data.toList.take k) : Nat) : Int) 4294967295 = ((crcL s.data.toList : Nat) : Int) := by
        rw [he, show (4294967295 : Int) = ((4294967295 : Nat) : Int) by rfl, u32_xor_nat _ _ (by rw [← he]; exact hc) (by omega)]; rfl
      have hcl := crcL_lt s.data.toList
      have hlt' : ¬ (k : Int) < (s.size : Int) := by omega
      clear he
      go_wp2
      go_ret
      exact ⟨rfl, rfl⟩

end Go.Proofs.YtocdlaoklagdoaaDoor
