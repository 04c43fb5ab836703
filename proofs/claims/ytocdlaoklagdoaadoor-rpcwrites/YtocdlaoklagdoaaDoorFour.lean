/- Four bytes, of both. -/
import Derived.Test.YtocdlaoklagdoaaDoorRread
import Derived.Deep.QuietTactic
import Derived.BigQuiet
namespace Go.Proofs.YtocdlaoklagdoaaDoor
open Go.RowKit Go.Maps
set_option linter.unusedSimpArgs false
set_option linter.unusedVariables false
set_option maxRecDepth 100000

theorem row_made (w : World) (cs : List Value) (l : List UInt8) (n : Nat) (h : cs = u8c l) (hn : n = l.length) (hm : n ≤ maxLen) : Row (w.alloc (.cells cs.toArray 5)) w.heap.size (.slice (some ⟨w.heap.size, 0, none⟩) n n) l := by
  subst h hn
  refine ⟨by simp [u8c], .inr ⟨w.heap.size, l.length, (u8c l).toArray, rfl, Nat.le_refl _, heap_alloc_new w _, Nat.le_refl _, hm, by simp [u8c], ?_⟩⟩
  show ((u8c l).toArray.toList).take (l.length * 1) = u8c l
  rw [List.take_of_length_le (by simp [u8c])]

theorem fourL_cells (n : Nat) (h : n < 4294967296) : [.int .u8 ((n : Int) / 16777216), .int .u8 ((n : Int) / 65536 % 256), .int .u8 ((n : Int) / 256 % 256), .int .u8 ((n : Int) % 256)] = u8c (fourL n) := by
  simp [u8c, fourL]
  omega
theorem four_conv (w : World) (n : Nat) (h : n < 4294967296) :
    (convert 43 9 (.slice (some ⟨w.heap.size, 0, none⟩) 4 4)).run Tryd.prog (w.alloc (.cells #[.int .u8 ((n : Int) / 16777216), .int .u8 ((n : Int) / 65536 % 256), .int .u8 ((n : Int) / 256 % 256), .int .u8 ((n : Int) % 256)] 5)) =
      .ok (.string (strOf (fourL n))) (w.alloc (.cells #[.int .u8 ((n : Int) / 16777216), .int .u8 ((n : Int) / 65536 % 256), .int .u8 ((n : Int) / 256 % 256), .int .u8 ((n : Int) % 256)] 5)) :=
  (row_made w _ (fourL n) 4 (fourL_cells n h) rfl (by unfold maxLen; omega)).conv

set_option maxHeartbeats 400000 in
theorem four_any (n : Nat) (w : World) (h : n < 4294967296) : Calls Tryd.prog 94 #[.int .i64 (n : Int)] w fun e w' => e = .returned (.string (strOf (fourL n))) ∧ Below w.heap.size w w' := by
  have hcv := four_conv w n h
  go_enter Tryd.func94, Tryd.ntmps94
  go_wp2
  go_ret
  exact ⟨rfl, (Below.refl _ _).alloc (Nat.le_refl _) _⟩

set_option maxHeartbeats 400000 in
theorem rfour_any (n : Nat) (w : World) (h : n < 4294967296) : Calls Tryd.prog 13 #[.int .i64 (n : Int)] w fun e w' => e = .returned (.string (strOf (fourL n))) ∧ Below w.heap.size w w' := by
  have hcv := four_conv w n h
  go_enter Tryd.func13, Tryd.ntmps13
  go_wp2
  go_ret
  exact ⟨rfl, (Below.refl _ _).alloc (Nat.le_refl _) _⟩

theorem i64_or_nat (a b : Nat) (ha : a < 9223372036854775808) (hb : b < 9223372036854775808) : bits .or .i64 (a : Int) (b : Int) = ((a ||| b : Nat) : Int) := by
  have hx : a ||| b < 2 ^ 63 := Nat.or_lt_two_pow (by omega) (by omega)
  show IntKind.i64.wrap ((BitVec.ofInt 64 (a : Int) ||| BitVec.ofInt 64 (b : Int)).toNat : Int) = _
  rw [BitVec.toNat_or, ofInt_u64 a (by omega), ofInt_u64 b (by omega), IntKind.wrap_i64]
  omega
theorem or_byte (a d : Nat) (ha : a < 16777216) (hd : d < 256) : bits .or .i64 ((a : Int) * 256) (d : Int) = ((a * 256 + d : Nat) : Int) := by
  have h := i64_or_nat (a * 256) d (by omega) (by omega)
  rw [nat_join 8 (a * 256) d (by omega) (by omega)] at h
  rw [show ((a : Int) * 256) = ((a * 256 : Nat) : Int) by omega, h]

def accN (l : List UInt8) : Nat := l.foldl (fun a b => a * 256 + b.toNat) 0
theorem accN_snoc (l : List UInt8) (b : UInt8) : accN (l ++ [b]) = accN l * 256 + b.toNat := by simp [accN]
theorem accN_lt (s : ByteArray) : ∀ k, k ≤ 4 → k ≤ s.size → accN (s.data.toList.take k) < 256 ^ k
  | 0, _, _ => by simp [accN]
  | k + 1, h, hs => by
    have ih := accN_lt s k (by omega) (by omega)
    have := s[k].toNat_lt
    rw [take_snoc s k (by omega), accN_snoc, Nat.pow_succ]
    omega
theorem accN_four (l : List UInt8) (h : 4 ≤ l.length) : accN (l.take 4) = fourN l := by
  match l, h with
  | a :: b :: c :: d :: r, _ => simp [accN, fourN]; omega

set_option maxHeartbeats 400000 in
theorem readFour_any (s : ByteArray) (w : World) (h4 : 4 ≤ s.size) (hs : s.size ≤ maxLen) :
    Calls Tryd.prog 91 #[.string s] w fun e w' => e = .returned (.int .i64 (fourN s.data.toList : Nat)) ∧ w = w' := by
  unfold maxLen at hs
  go_enter Tryd.func91, Tryd.ntmps91
  go_wp2
  go_loop [3, 5] (fun c i => ∃ k : Nat, k ≤ 4 ∧ i = .int .i64 k ∧ c = .int .i64 (accN (s.data.toList.take k) : Nat)) (fun _ i => 4 - (intOf i).toNat)
  case atStart => exact ⟨0, Nat.zero_le _, rfl, rfl⟩
  case round =>
    obtain ⟨k, hk, rfl, rfl⟩ := hrel
    by_cases hlt : k < 4
    · have hlt' : (k : Int) < 4 := by omega
      have hA := accN_lt s k hk (by omega)
      have h3 : 256 ^ k ≤ 256 ^ 3 := Nat.pow_le_pow_right (by omega) (by omega)
      have hks : k < s.size := by omega
      have hsn : Hid (accN (s.data.toList.take (k + 1)) = accN (s.data.toList.take k) * 256 + s[k].toNat) := by show _ = _; rw [take_snoc s k hks, accN_snoc]
      have hA2 : accN (s.data.toList.take k) < 16777216 := by omega
      clear hA h3
      generalize accN (s.data.toList.take k) = A at *
      have hb := s[k].toNat_lt
      have hor := or_byte A s[k].toNat hA2 (by omega)
      generalize hZ : A * 256 + s[k].toNat = Z at *
      clear hZ
      go_wp2
      go_round
      case rel => exact ⟨k + 1, by omega, by go_num, by rw [hsn.out]⟩
      case measure => simp [intOf]; omega
    · have hlt' : ¬ (k : Int) < 4 := by omega
      have hk4 : k = 4 := by omega
      have HF := hid (accN_four s.data.toList (by simpa using h4))
      subst hk4
      go_wp2
      go_ret
      exact ⟨ret_int (by rw [HF.out]), rfl⟩

theorem fourN_at (s : ByteArray) (h4 : 4 ≤ s.size) : fourN s.data.toList = s[0].toNat * 16777216 + s[1].toNat * 65536 + s[2].toNat * 256 + s[3].toNat := by
  have e : s.data.toList = s[0] :: s[1] :: s[2] :: s[3] :: s.data.toList.drop 4 := by
    have h0 := drop_at s 0 (by omega)
    have h1 := drop_at s 1 (by omega)
    have h2 := drop_at s 2 (by omega)
    have h3 := drop_at s 3 (by omega)
    simp only [List.drop_zero, Nat.zero_add, Nat.reduceAdd] at h0 h1 h2 h3
    rw [h3] at h2
    rw [h2] at h1
    rw [h1] at h0
    exact h0
  have e2 := congrArg fourN e
  rw [e2]
  rfl

theorem idx_const (s : ByteArray) (k : Nat) (h : k < s.size) (w : World) : (Instr.index 9 (.string s) (.int .i64 (k : Int))).run Tryd.prog w = .ok (.int .u8 (s[k].toNat : Int)) w := by
  rw [run_index_string (P := Tryd.prog) w 9 s .i64 (k : Int) Tryd.underlying9]
  simp [h]

set_option maxHeartbeats 800000 in
theorem rfourN_any (s : ByteArray) (w : World) (h4 : 4 ≤ s.size) (hs : s.size ≤ maxLen) :
    Calls Tryd.prog 62 #[.string s] w fun e w' => e = .returned (.int .i64 (fourN s.data.toList : Nat)) ∧ Below w.heap.size w w' := by
  unfold maxLen at hs
  have HF := hid (fourN_at s h4)
  have b0 := s[0].toNat_lt
  have b1 := s[1].toNat_lt
  have b2 := s[2].toNat_lt
  have b3 := s[3].toNat_lt
  have i0 : ∀ w, (Instr.index 9 (.string s) (.int .i64 0)).run Tryd.prog w = .ok (.int .u8 (s[0].toNat : Int)) w := idx_const s 0 (by omega)
  have i1 : ∀ w, (Instr.index 9 (.string s) (.int .i64 1)).run Tryd.prog w = .ok (.int .u8 (s[1].toNat : Int)) w := idx_const s 1 (by omega)
  have i2 : ∀ w, (Instr.index 9 (.string s) (.int .i64 2)).run Tryd.prog w = .ok (.int .u8 (s[2].toNat : Int)) w := idx_const s 2 (by omega)
  have i3 : ∀ w, (Instr.index 9 (.string s) (.int .i64 3)).run Tryd.prog w = .ok (.int .u8 (s[3].toNat : Int)) w := idx_const s 3 (by omega)
  generalize s[0].toNat = B0 at *
  generalize s[1].toNat = B1 at *
  generalize s[2].toNat = B2 at *
  generalize s[3].toNat = B3 at *
  go_enter Tryd.func62, Tryd.ntmps62
  go_wp2
  go_quiet (fail)
  go_wp2
  go_ret
  exact ⟨ret_int (by rw [HF.out]; go_num), below_drewN (Below.refl _ _) _⟩
end Go.Proofs.YtocdlaoklagdoaaDoor
