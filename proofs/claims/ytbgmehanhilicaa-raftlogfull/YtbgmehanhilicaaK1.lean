/- What the small functions do: pick, New, the look at a name. -/
import Derived.Test.YtbgmehanhilicaaK0
namespace Go.Proofs.Ytbgmehanhilicaa
open Go.RowKit Go.Maps


theorem neg_tmod (c n : Int) : (-(c + 1)).tmod n = -((c + 1).tmod n) := by rw [Int.neg_tmod]

def pickI (c n : Int) : Int := if c < 0 then (-(c + 1)) % n else c % n

theorem pickI_range (c n : Int) (hn : 1 ≤ n) : 0 ≤ pickI c n ∧ pickI c n < n := by
  unfold pickI
  split
  · exact ⟨Int.emod_nonneg _ (by omega), Int.emod_lt_of_pos _ (by omega)⟩
  · exact ⟨Int.emod_nonneg _ (by omega), Int.emod_lt_of_pos _ (by omega)⟩

set_option maxHeartbeats 400000 in
theorem new_yes (n : Int) (w : World) (h1 : 1 ≤ n) (h2 : n ≤ 16777216) :
    Calls Try.prog 6 #[.int .i64 n] w fun e w' => e = .returned (.tuple #[.pointer (some ⟨w.heap.size, 0, none⟩), .int .i64 0]) ∧ w' = w.alloc (.cells #[.int .i64 n, .map none] 60) := by
  have h3 : ¬ (n < 1) := by omega
  have h4 : ¬ (16777216 < n) := by omega
  go_enter Try.func6, Try.ntmps6
  go_wp2
  go_ret2
  exact ⟨rfl, rfl⟩

def nameByteB (c : Int) : Bool := decide (97 ≤ c) && decide (c ≤ 122) || decide (48 ≤ c) && decide (c ≤ 57) || c == 45 || c == 46

set_option maxHeartbeats 400000 in
theorem nameByte_any (c : Int) (w : World) (h0 : 0 ≤ c) (h1 : c ≤ 255) :
    Calls Try.prog 74 #[.int .u8 c] w fun e w' => e = .returned (.bool (nameByteB c)) ∧ w' = w := by
  go_enter Try.func74, Try.ntmps74
  go_wp2
  all_goals
    go_ret
    refine ⟨ret_bool ?_, rfl⟩
    rw [Bool.eq_iff_iff]
    simp [nameByteB]
    try omega

def nameB (s : ByteArray) : Bool := decide (1 ≤ s.size) && decide (s.size ≤ 64) && s.data.toList.all fun c => nameByteB (c.toNat : Int)

theorem all_step (s : ByteArray) (k : Nat) (h : k < s.size) : (s.data.toList.take (k + 1)).all (fun c => nameByteB (c.toNat : Int)) = ((s.data.toList.take k).all (fun c => nameByteB (c.toNat : Int)) && nameByteB (s[k].toNat : Int)) := by
  rw [List.take_succ_eq_append_getElem (by simpa using h), List.all_append]
  simp
  rfl

theorem all_end (s : ByteArray) (k : Nat) (h : k < s.size) (hb : nameByteB (s[k].toNat : Int) = false) : (s.data.toList).all (fun c => nameByteB (c.toNat : Int)) = false := by
  have hk : k < s.data.toList.length := by simpa using h
  rw [List.all_eq_false]
  exact ⟨s.data.toList[k], List.getElem_mem hk, by simp; exact hb⟩

set_option maxHeartbeats 800000 in
theorem isName_any (s : ByteArray) (w : World) (hs : s.size ≤ maxLen) :
    Calls Try.prog 56 #[.string s] w fun e w' => e = .returned (.bool (nameB s)) ∧ w' = w := by
  unfold maxLen at hs
  by_cases h1 : s.size < 1
  · have h1' : (s.size : Int) < 1 := by omega
    go_enter Try.func56, Try.ntmps56
    go_wp2
    go_ret
    exact ⟨ret_bool (by have : ¬ 1 ≤ s.size := by omega
                        simp [nameB, this]), rfl⟩
  by_cases h2 : 64 < s.size
  · have h1' : ¬ (s.size : Int) < 1 := by omega
    have h2' : 64 < (s.size : Int) := by omega
    go_enter Try.func56, Try.ntmps56
    go_wp2
    go_ret
    exact ⟨ret_bool (by have : ¬ s.size ≤ 64 := by omega
                        simp [nameB, this]), rfl⟩
  have h1' : ¬ (s.size : Int) < 1 := by omega
  have h2' : ¬ 64 < (s.size : Int) := by omega
  go_enter Try.func56, Try.ntmps56
  go_wp2
  go_loop [14] (fun i => ∃ k : Nat, k ≤ s.size ∧ i = .int .i64 k ∧ Hid ((s.data.toList.take k).all (fun c => nameByteB (c.toNat : Int)) = true)) (fun i => s.size - (intOf i).toNat)
  case atStart => exact ⟨0, Nat.zero_le _, rfl, by show _ = true; simp⟩
  case round =>
    obtain ⟨k, hk, rfl, hall⟩ := hrel
    by_cases hlt : k < s.size
    · have hb0 : 0 ≤ (s[k].toNat : Int) := by omega
      have hb1 : (s[k].toNat : Int) ≤ 255 := by have := s[k].toNat_lt; omega
      cases hc : nameByteB (s[k].toNat : Int)
      · have H := all_end s k hlt hc
        have HH : Hid ((s.data.toList).all (fun c => nameByteB (c.toNat : Int)) = false) := H
        clear H
        go_wp2_with (go_at_call 74; refine (nameByte_any _ _ hb0 hb1).mono ?_; rintro e w' ⟨rfl, rfl⟩; rw [hc])
        go_ret
        exact ⟨ret_bool (by simp only [nameB, HH.out, Bool.and_false]), rfl⟩
      · have HH : Hid ((s.data.toList.take (k + 1)).all (fun c => nameByteB (c.toNat : Int)) = true) := by show _ = true; rw [all_step s k hlt, hall.out, hc]; rfl
        go_wp2_with (go_at_call 74; refine (nameByte_any _ _ hb0 hb1).mono ?_; rintro e w' ⟨rfl, rfl⟩; rw [hc])
        go_round
        case rel => exact ⟨k + 1, by omega, by go_num, HH⟩
        case measure => simp [intOf]; omega
    · go_wp2
      go_ret
      have hk' : k = s.size := by omega
      subst hk'
      have h3 := hall.out
      rw [List.take_of_length_le (by simp)] at h3
      exact ⟨ret_bool (by simp only [nameB, h3, Bool.and_true]; have : 1 ≤ s.size ∧ s.size ≤ 64 := by omega
                          simp [this]), rfl⟩
end Go.Proofs.Ytbgmehanhilicaa

