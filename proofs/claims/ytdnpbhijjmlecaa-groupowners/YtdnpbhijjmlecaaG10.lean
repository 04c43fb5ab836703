/- Names, rising lists, offsets; kinds. -/
import Derived.Test.YtdnpbhijjmlecaaG2
import Derived.Shelf.Pu.Clone
namespace Go.Proofs.Ytdnpbhijjmlecaa
open Go.RowKit Go.Maps
set_option maxRecDepth 100000
set_option linter.unusedSimpArgs false
set_option linter.unusedVariables false

def cloneRen : Go.Shelf.Ren := ⟨fun | 25 => 68 | n => n, fun | 37 => 113 | 47 => 114 | n => n, fun | n => n⟩
theorem cloneLaid : Go.Proofs.LaysPu.n25 Try.prog cloneRen := {
  mixed := by kernel_rfl
  f25 := Try.func68.trans (congrArg some (by kernel_rfl))
  t0 := by kernel_rfl
  a0 := fun w => by kernel_rfl
  z0 := fun w => by kernel_rfl
  v0 := fun w => by kernel_rfl
  i0 := by kernel_rfl
  t3 := Try.underlying3
  a3 := fun w => by kernel_rfl
  z3 := fun w => by kernel_rfl
  v3 := fun w => by kernel_rfl
  i3 := by kernel_rfl
  t4 := Try.underlying4
  a4 := fun w => by kernel_rfl
  z4 := fun w => by kernel_rfl
  v4 := fun w => by kernel_rfl
  i4 := by kernel_rfl
  t5 := Try.underlying5
  a5 := fun w => by kernel_rfl
  z5 := fun w => by kernel_rfl
  v5 := fun w => by kernel_rfl
  i5 := by kernel_rfl
  t9 := Try.underlying9
  a9 := fun w => by kernel_rfl
  z9 := fun w => by kernel_rfl
  v9 := fun w => by kernel_rfl
  i9 := by kernel_rfl
  t37 := Try.underlying113
  a37 := fun w => by kernel_rfl
  z37 := fun w => by kernel_rfl
  v37 := fun w => by kernel_rfl
  i37 := by kernel_rfl
  t47 := by kernel_rfl
  a47 := fun w => by kernel_rfl
  z47 := fun w => by kernel_rfl
  v47 := fun w => by kernel_rfl
  i47 := by kernel_rfl }
theorem clone160 (s : ByteArray) (w : World) (h : s.size ≤ 281474976710656) : Calls Try.prog 68 #[.string s] w fun e w' => e = .returned (.string s) ∧ Below w.heap.size w w' :=
  AnyPu.stringslite_Clone cloneLaid s w h
set_option maxHeartbeats 400000 in
theorem sclone_any (s : ByteArray) (w : World) (h : s.size ≤ 281474976710656) : Calls Try.prog 58 #[.string s] w fun e w' => e = .returned (.string s) ∧ Below w.heap.size w w' := by
  have H57 := hid (clone160 s w h)
  go_enter Try.func58, Try.ntmps58
  go_wp2_with (go_at_call 68; refine H57.out.mono ?_; rintro e w1 ⟨rfl, hb1⟩)
  go_ret
  exact ⟨rfl, hb1⟩
theorem take_at (s : ByteArray) (k : Nat) (h : k < s.size) : s.data.toList.take (k + 1) = s.data.toList.take k ++ [s[k]] := by
  rw [List.take_succ_eq_append_getElem (by simpa using h)]; rfl

set_option maxHeartbeats 800000 in
theorem isOffset_any (n : Int) (w : World) : Calls Try.prog 85 #[.int .i64 n] w fun e w' => e = .returned (.bool (offB n)) ∧ w = w' := by
  go_enter Try.func85, Try.ntmps85
  go_wp2
  all_goals
    go_ret
    refine ⟨ret_bool ?_, rfl⟩
    rw [Bool.eq_iff_iff]
    simp [offB]
    try omega
set_option maxHeartbeats 800000 in
theorem ofName_any (c : UInt8) (w : World) : Calls Try.prog 67 #[.int .u8 (c.toNat : Int)] w fun e w' => e = .returned (.bool (isOfB c)) ∧ w = w' := by
  have hc : (0 : Int) ≤ (c.toNat : Int) := by omega
  have HF : Hid (isOfB c = decide ((97 ≤ (c.toNat : Int) ∧ (c.toNat : Int) ≤ 122) ∨ (48 ≤ (c.toNat : Int) ∧ (c.toNat : Int) ≤ 57) ∨ (c.toNat : Int) = 45)) := by
    show _ = _
    unfold isOfB
    rw [Bool.eq_iff_iff]
    simp
    omega
  generalize isOfB c = B at *
  generalize (c.toNat : Int) = n at *
  go_enter Try.func67, Try.ntmps67
  go_wp2
  all_goals
    go_ret
    refine ⟨ret_bool ?_, rfl⟩
    rw [HF.out, Bool.eq_iff_iff]
    simp
    try omega
set_option maxHeartbeats 1600000 in
theorem isName_any (s : ByteArray) (w : World) (hs : s.size ≤ maxLen) : Calls Try.prog 55 #[.string s] w fun e w' => e = .returned (.bool (nameB s)) ∧ w = w' := by
  unfold maxLen at hs
  have H67 : Hid (∀ c W, Calls Try.prog 67 #[.int .u8 ((c : UInt8).toNat : Int)] W fun e w' => e = .returned (.bool (isOfB c)) ∧ W = w') := fun c W => ofName_any c W
  by_cases h1 : 1 ≤ s.size
  · by_cases h2 : s.size ≤ 32
    · have HF : Hid (nameB s = s.data.toList.all isOfB) := by show _ = _; unfold nameB; simp [h1, h2]
      generalize nameB s = B at *
      have h1' : ¬ (s.size : Int) < 1 := by omega
      have h2' : ¬ (32 : Int) < (s.size : Int) := by omega
      go_enter Try.func55, Try.ntmps55
      go_wp2_with fail
      go_loopg [14] s.size (fun kx s14 wr => ∃ k : Nat, k ≤ s.size ∧ s.size - k ≤ kx ∧ s14 = .int .i64 (k : Int) ∧ Hid ((s.data.toList.take k).all isOfB = true) ∧ wr = w)
      case atStart => exact ⟨0, Nat.zero_le _, by omega, rfl, by show _ = _; simp, rfl⟩
      case round =>
        obtain ⟨k, hk, hkx, rfl, HK, rfl⟩ := hrel
        by_cases hlt : k < s.size
        · have hlt' : (k : Int) < (s.size : Int) := by omega
          have HT : Hid ((s.data.toList.take (k + 1)).all isOfB = ((s.data.toList.take k).all isOfB && isOfB s[k])) := by
            show _ = _
            rw [take_at s k hlt, List.all_append]
            simp
          have HM : Hid (isOfB s[k] = false → s.data.toList.all isOfB = false) := fun h => by
            rw [List.all_eq_false]
            exact ⟨s[k], by simp [ByteArray.getElem_eq_getElem_data], by simp [h]⟩
          cases hc : isOfB s[k] with
          | false =>
            have HM2 := hid (HM.out hc)
            have HX := hid (H67.out s[k])
            rw [hc] at HX
            clear HM HT hc
            go_wp2_with fail
            refine (HX.out _).mono ?_
            rintro e w1 ⟨rfl, rfl⟩
            go_wp2_with fail
            go_ret
            exact ⟨ret_bool (by rw [HF.out, HM2.out]), rfl⟩
          | true =>
            have HX := hid (H67.out s[k])
            rw [hc] at HX HT
            have HK2 : Hid ((s.data.toList.take (k + 1)).all isOfB = true) := by show _ = _; rw [HT.out, HK.out]; rfl
            clear HM HT hc
            go_wp2_with fail
            refine (HX.out _).mono ?_
            rintro e w1 ⟨rfl, rfl⟩
            go_wp2_with fail
            go_roundg (s.size - (k + 1))
            case measure => omega
            case rel => exact ⟨k + 1, by omega, Nat.le_refl _, by go_num, HK2.out, rfl⟩
        · have hlt' : ¬ (k : Int) < (s.size : Int) := by omega
          go_wp2_with fail
          go_ret
          have hn := HK.out
          rw [List.take_of_length_le (by simp; omega)] at hn
          exact ⟨ret_bool (by rw [HF.out, hn]), rfl⟩
    · have HF : Hid (nameB s = false) := by show _ = _; unfold nameB; simp [h2]
      have h1' : ¬ (s.size : Int) < 1 := by omega
      have h2' : (32 : Int) < (s.size : Int) := by omega
      go_enter Try.func55, Try.ntmps55
      go_wp2_with fail
      go_ret
      exact ⟨ret_bool HF.out.symm, rfl⟩
  · have HF : Hid (nameB s = false) := by show _ = _; unfold nameB; simp [h1]
    have h1' : (s.size : Int) < 1 := by omega
    go_enter Try.func55, Try.ntmps55
    go_wp2_with fail
    go_ret
    exact ⟨ret_bool HF.out.symm, rfl⟩
set_option maxHeartbeats 1600000 in
theorem isRising_any {w : World} {v : Value} {l : List Int} (h : IL w v l) : Calls Try.prog 56 #[v] w fun e w' => e = .returned (.bool (riseB 0 l)) ∧ w = w' := by
  obtain ⟨⟨a, cap, rfl, hcap, hcm, hnn, hat⟩, hok, hfew⟩ := h
  have HA := hid hat
  have HOK := hid hok
  have hlen : l.length ≤ 9223372036854775807 := by omega
  clear hat hok hnn hcap hcm
  go_enter Try.func56, Try.ntmps56
  go_wp2_with fail
  go_loopg [3, 5, 8] l.length (fun kx s3 s5 s8 wr => ∃ k : Nat, k ≤ l.length ∧ l.length - k ≤ kx ∧ s8 = .int .i64 (k : Int) ∧ (∃ z : Int, s3 = .int .i64 z ∧ I64 z ∧ Hid (riseB 0 l = riseB z (l.drop k))) ∧ wr = w)
  case atStart => exact ⟨0, Nat.zero_le _, by omega, rfl, ⟨0, rfl, by unfold I64; omega, rfl⟩, rfl⟩
  case round =>
    obtain ⟨k, hk, hkx, rfl, ⟨z, rfl, hz, HR⟩, rfl⟩ := hrel
    by_cases hlt : k < l.length
    · obtain ⟨b, off, rfl, hb, hc⟩ := HA.out (by intro e; rw [e] at hlt; simp at hlt)
      have hck := hc k hlt
      have hok := HOK.out l[k] (by simp)
      have HD : Hid (riseB z (l.drop k) = (decide (z < l[k] ∧ l[k] ≤ 16) && riseB l[k] (l.drop (k + 1)))) := by
        show _ = _
        rw [List.drop_eq_getElem_cons hlt]
        rfl
      have hlt' : (k : Int) < (l.length : Int) := by omega
      generalize l[k] = y at *
      clear hc
      by_cases h1 : y ≤ z
      · have HX : Hid (riseB 0 l = false) := by show _ = _; rw [HR.out, HD.out]; simp; omega
        go_wp2_with fail
        go_ret
        exact ⟨ret_bool HX.out.symm, rfl⟩
      · by_cases h2 : 16 < y
        · have HX : Hid (riseB 0 l = false) := by show _ = _; rw [HR.out, HD.out]; simp; omega
          go_wp2_with fail
          go_ret
          exact ⟨ret_bool HX.out.symm, rfl⟩
        · have HX : Hid (riseB 0 l = riseB y (l.drop (k + 1))) := by show _ = _; rw [HR.out, HD.out]; simp; omega
          have HY := hid hok
          go_wp2_with fail
          go_roundg (l.length - (k + 1))
          case measure => omega
          case rel => exact ⟨k + 1, by omega, Nat.le_refl _, by go_num, ⟨y, rfl, HY.out, HX.out⟩, rfl⟩
    · have hlt' : ¬ (k : Int) < (l.length : Int) := by omega
      go_wp2_with fail
      go_ret
      have hr := HR.out
      rw [List.drop_eq_nil_of_le (by omega)] at hr
      exact ⟨ret_bool hr.symm, rfl⟩
/-- What a kind of record does. -/
def kindF (k : Int) : Nat := if k = 1 then 38 else if k = 2 ∨ k = 3 ∨ k = 4 ∨ k = 6 then 39 else if k = 5 then 40 else 41
def oneF (k : Int) : Nat := if k = 2 then 60 else if k = 3 then 61 else if k = 6 then 62 else 63
set_option maxHeartbeats 1600000 in
theorem kind_any (k : Int) (w : World) : Calls Try.prog 24 #[.int .i64 k] w fun e w' => e = .returned (.func (.func (kindF k)) #[] #[]) ∧ w = w' := by
  have HF : Hid (∀ n, kindF k = n → (Ending.returned (.func (.func n) #[] #[]) = .returned (.func (.func (kindF k)) #[] #[]))) := fun n h => by rw [h]
  by_cases h1 : k = 1
  · subst h1; go_enter Try.func24, Try.ntmps24; go_wp2_with fail; go_ret; exact ⟨HF.out _ rfl, rfl⟩
  by_cases h2 : k = 2
  · subst h2; go_enter Try.func24, Try.ntmps24; go_wp2_with fail; go_ret; exact ⟨HF.out _ rfl, rfl⟩
  by_cases h3 : k = 3
  · subst h3; go_enter Try.func24, Try.ntmps24; go_wp2_with fail; go_ret; exact ⟨HF.out _ rfl, rfl⟩
  by_cases h4 : k = 4
  · subst h4; go_enter Try.func24, Try.ntmps24; go_wp2_with fail; go_ret; exact ⟨HF.out _ rfl, rfl⟩
  by_cases h6 : k = 6
  · subst h6; go_enter Try.func24, Try.ntmps24; go_wp2_with fail; go_ret; exact ⟨HF.out _ rfl, rfl⟩
  by_cases h5 : k = 5
  · subst h5; go_enter Try.func24, Try.ntmps24; go_wp2_with fail; go_ret; exact ⟨HF.out _ rfl, rfl⟩
  have HN : Hid (kindF k = 41) := by show _ = _; unfold kindF; simp [h1, h2, h3, h4, h5, h6]
  go_enter Try.func24, Try.ntmps24
  go_wp2_with fail
  go_ret
  exact ⟨HF.out _ HN.out, rfl⟩
set_option maxHeartbeats 1600000 in
theorem oneKind_any (k : Int) (w : World) : Calls Try.prog 50 #[.int .i64 k] w fun e w' => e = .returned (.func (.func (oneF k)) #[] #[]) ∧ w = w' := by
  have HF : Hid (∀ n, oneF k = n → (Ending.returned (.func (.func n) #[] #[]) = .returned (.func (.func (oneF k)) #[] #[]))) := fun n h => by rw [h]
  by_cases h2 : k = 2
  · subst h2; go_enter Try.func50, Try.ntmps50; go_wp2_with fail; go_ret; exact ⟨HF.out _ rfl, rfl⟩
  by_cases h3 : k = 3
  · subst h3; go_enter Try.func50, Try.ntmps50; go_wp2_with fail; go_ret; exact ⟨HF.out _ rfl, rfl⟩
  by_cases h6 : k = 6
  · subst h6; go_enter Try.func50, Try.ntmps50; go_wp2_with fail; go_ret; exact ⟨HF.out _ rfl, rfl⟩
  have HN : Hid (oneF k = 63) := by show _ = _; unfold oneF; simp [h2, h3, h6]
  go_enter Try.func50, Try.ntmps50
  go_wp2_with fail
  go_ret
  exact ⟨HF.out _ HN.out, rfl⟩
end Go.Proofs.Ytdnpbhijjmlecaa
