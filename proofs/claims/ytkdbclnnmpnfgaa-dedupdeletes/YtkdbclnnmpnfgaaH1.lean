/- ReadInt of both. -/
import Derived.Test.YtkdbclnnmpnfgaaH0
import Derived.Deep.QuietTactic
import Derived.BigQuiet
namespace Go.Proofs.Ytkdbclnnmpnfgaa
open Go.RowKit Go.Maps
set_option linter.unusedSimpArgs false
set_option linter.unusedVariables false
set_option maxRecDepth 100000

theorem drop_at (s : ByteArray) (k : Nat) (h : k < s.size) : s.data.toList.drop k = s[k] :: s.data.toList.drop (k + 1) := by
  rw [List.drop_eq_getElem_cons (by simpa using h)]; rfl

theorem and127 : ∀ x : Nat, x < 256 → x &&& 127 = x % 128 := fun x _ => nat_mask7 x
theorem pow_two (k : Nat) : (2 : Int) ^ (7 * k) = ((128 ^ k : Nat) : Int) := by
  rw [Int.pow_mul]; norm_cast
theorem shl_lt (z d k : Nat) (hk : k ≤ 9) (hz : z < 128 ^ k) (h9 : k = 9 → d ≤ 1) : z + d % 128 * 128 ^ k < 18446744073709551616 := by
  have h9' : (128 : Nat) ^ 9 = 9223372036854775808 := by decide
  by_cases h : k = 9
  · subst h
    have : d % 128 * 128 ^ 9 ≤ 1 * 128 ^ 9 := Nat.mul_le_mul_right _ (by have := h9 rfl; omega)
    omega
  · have hp8 : 128 ^ k ≤ 128 ^ 8 := Nat.pow_le_pow_right (by omega) (by omega)
    have h8 : (128 : Nat) ^ 8 = 72057594037927936 := by decide
    have : d % 128 * 128 ^ k ≤ 127 * 128 ^ k := Nat.mul_le_mul_right _ (by omega)
    omega
theorem shl_pow (z d k : Nat) (hz : z < 128 ^ k) : z + d % 128 * 128 ^ k < 128 ^ (k + 1) := by
  have : d % 128 * 128 ^ k ≤ 127 * 128 ^ k := Nat.mul_le_mul_right _ (by omega)
  rw [Nat.pow_succ]
  omega
theorem shl_or (z d k : Nat) (hk : k ≤ 9) (hz : z < 128 ^ k) (hd : d < 256) (h9 : k = 9 → d ≤ 1) :
    bits .or .u64 (z : Int) (IntKind.u64.wrap (IntKind.u64.wrap (bits .and .u8 (d : Int) 127) * 2 ^ (7 * k))) = ((z + d % 128 * 128 ^ k : Nat) : Int) := by
  have hlt := shl_lt z d k hk hz h9
  have e1 : bits .and .u8 (d : Int) 127 = ((d % 128 : Nat) : Int) := by
    have := u8_and_nat d 127 hd (by omega)
    rw [nat_mask7] at this
    exact this
  have e2 : IntKind.u64.wrap ((d % 128 : Nat) : Int) = ((d % 128 : Nat) : Int) := by rw [IntKind.wrap_u64]; omega
  have e3 : IntKind.u64.wrap (((d % 128 * 128 ^ k : Nat) : Int)) = ((d % 128 * 128 ^ k : Nat) : Int) := by rw [IntKind.wrap_u64]; omega
  rw [e1, e2, pow_two, ← Int.natCast_mul, e3, u64_or_nat _ _ (by omega) (by omega)]
  have hj := nat_join (7 * k) (d % 128 * 128 ^ k) z (by rw [Nat.pow_mul]; exact Nat.mul_mod_left _ _) (by rw [Nat.pow_mul]; exact hz)
  rw [Nat.or_comm, hj, Nat.add_comm]
theorem rdZ_step (f k z : Nat) (d : UInt8) (r : List UInt8) (h : ¬ ((k = 9 ∧ 1 < d.toNat) ∨ (0 < k ∧ d.toNat = 0))) :
    rdZ (f + 1) k z (d :: r) = if d.toNat < 128 then (z + d.toNat % 128 * 128 ^ k, k + 1, 0) else rdZ f (k + 1) (z + d.toNat % 128 * 128 ^ k) r := by
  rw [rdZ, if_neg h]
  by_cases hd : d.toNat < 128
  · rw [if_pos hd, if_pos hd, Nat.mod_eq_of_lt hd]
  · rw [if_neg hd, if_neg hd]

set_option maxHeartbeats 1600000 in
theorem readInt_any (s : ByteArray) (w : World) (hs : s.size ≤ maxLen) :
    Calls Try.prog 68 #[.string s] w fun e w' => e = .returned (.tuple #[.int .i64 (readL s.data.toList).1, .int .i64 ((readL s.data.toList).2.1 : Nat), .int .i64 (readL s.data.toList).2.2]) ∧ w = w' := by
  unfold maxLen at hs
  obtain ⟨R, hR⟩ : ∃ R, R = rdZ 10 0 0 s.data.toList := ⟨_, rfl⟩
  have HR : Hid (readL s.data.toList = okI R) := by show _ = _; rw [hR]; rfl
  have H0 : Hid (rdZ (10 - 0) 0 0 (s.data.toList.drop 0) = R) := hR.symm
  clear hR
  go_enter Try.func68, Try.ntmps68
  go_wp2
  go_loop [5, 8] (fun c i => ∃ k z : Nat, k ≤ 10 ∧ k ≤ s.size ∧ i = .int .i64 k ∧ c = .int .u64 z ∧ z < 128 ^ k ∧ Hid (rdZ (10 - k) k z (s.data.toList.drop k) = R)) (fun _ i => 10 - (intOf i).toNat)
  case atStart => exact ⟨0, 0, Nat.zero_le _, Nat.zero_le _, rfl, rfl, by simp, H0⟩
  case round =>
    obtain ⟨k, z, hk, hks, rfl, rfl, hz, HD⟩ := hrel
    clear H0
    by_cases hlt : k < 10
    · have hlt' : (k : Int) < 10 := by omega
      by_cases hsz : k < s.size
      · have hsz' : ((k : Int) == (s.size : Int)) = false := by simp; omega
        by_cases h9 : k = 9
        · have h9' : ((k : Int) == 9) = true := by simp; omega
          by_cases hd1 : 1 < s[k].toNat
          · have hd1' : 1 < (s[k].toNat : Int) := by omega
            have HF : Hid (readL s.data.toList = (0, 0, 4)) := by
              show _ = _
              rw [HR.out, ← HD.out, drop_at s k hsz, show 10 - k = 10 - (k + 1) + 1 by omega, rdZ, if_pos (by omega)]
              rfl
            try clear h9
            try clear h0
            try clear hd0
            go_wp2
            go_ret3
            exact ⟨by rw [HF.out]; rfl, rfl⟩
          · have hd1' : ¬ 1 < (s[k].toNat : Int) := by omega
            have h0' : 0 < (k : Int) := by omega
            by_cases hd0 : s[k].toNat = 0
            · have hd0' : ((s[k].toNat : Int) == 0) = true := by simp; omega
              have HF : Hid (readL s.data.toList = (0, 0, 4)) := by
                show _ = _
                rw [HR.out, ← HD.out, drop_at s k hsz, show 10 - k = 10 - (k + 1) + 1 by omega, rdZ, if_pos (by omega)]
                rfl
              try clear h9
              try clear h0
              try clear hd0
              go_wp2
              go_ret3
              exact ⟨by rw [HF.out]; rfl, rfl⟩
            · have hd0' : ((s[k].toNat : Int) == 0) = false := by simp; omega
              have hb := s[k].toNat_lt
              have hcond : ¬ ((k = 9 ∧ 1 < s[k].toNat) ∨ (0 < k ∧ s[k].toNat = 0)) := by omega
              obtain ⟨Z, hZ⟩ : ∃ Z, Z = z + s[k].toNat % 128 * 128 ^ k := ⟨_, rfl⟩
              have hbig := shl_or z s[k].toNat k (by omega) hz (by omega) (by omega)
              have hZlt := shl_lt z s[k].toNat k (by omega) hz (by omega)
              have hZp := shl_pow z s[k].toNat k hz
              have HN := hid (rdZ_step (10 - (k + 1)) k z s[k] (s.data.toList.drop (k + 1)) hcond)
              rw [← hZ] at hbig hZlt hZp HN
              rw [show 10 - (k + 1) + 1 = 10 - k by omega, ← drop_at s k hsz] at HN
              have HN2 := HN.out.symm.trans HD.out
              have HN3 := hid HN2
              clear HN HN2 hZ hcond hz
              try clear h9
              try clear h0
              try clear hd0
              by_cases hd : s[k].toNat < 128
              · have hd' : (s[k].toNat : Int) < 128 := by omega
                have HF : Hid (readL s.data.toList = (unzz Z, k + 1, 0)) := by
                  show _ = _
                  rw [HR.out, ← HN3.out, if_pos hd]
                  rfl
                go_wp2_with (go_at_call 80; refine (unfolded_any Z _ hZlt).mono ?_; rintro e w' ⟨rfl, rfl⟩)
                go_ret3
                exact ⟨by rw [HF.out]; go_num, rfl⟩
              · omega
        · have h9' : ((k : Int) == 9) = false := by simp; omega
          by_cases h0 : k = 0
          · have h0' : ¬ 0 < (k : Int) := by omega
            have hb := s[k].toNat_lt
            have hcond : ¬ ((k = 9 ∧ 1 < s[k].toNat) ∨ (0 < k ∧ s[k].toNat = 0)) := by omega
            obtain ⟨Z, hZ⟩ : ∃ Z, Z = z + s[k].toNat % 128 * 128 ^ k := ⟨_, rfl⟩
            have hbig := shl_or z s[k].toNat k (by omega) hz (by omega) (by omega)
            have hZlt := shl_lt z s[k].toNat k (by omega) hz (by omega)
            have hZp := shl_pow z s[k].toNat k hz
            have HN := hid (rdZ_step (10 - (k + 1)) k z s[k] (s.data.toList.drop (k + 1)) hcond)
            rw [← hZ] at hbig hZlt hZp HN
            rw [show 10 - (k + 1) + 1 = 10 - k by omega, ← drop_at s k hsz] at HN
            have HN2 := HN.out.symm.trans HD.out
            have HN3 := hid HN2
            clear HN HN2 hZ hcond hz
            try clear h9
            try clear h0
            try clear hd0
            by_cases hd : s[k].toNat < 128
            · have hd' : (s[k].toNat : Int) < 128 := by omega
              have HF : Hid (readL s.data.toList = (unzz Z, k + 1, 0)) := by
                show _ = _
                rw [HR.out, ← HN3.out, if_pos hd]
                rfl
              go_wp2_with (go_at_call 80; refine (unfolded_any Z _ hZlt).mono ?_; rintro e w' ⟨rfl, rfl⟩)
              go_ret3
              exact ⟨by rw [HF.out]; go_num, rfl⟩
            · have hd' : ¬ (s[k].toNat : Int) < 128 := by omega
              have HF : Hid (rdZ (10 - (k + 1)) (k + 1) Z (s.data.toList.drop (k + 1)) = R) := by
                show _ = _
                rw [← HN3.out, if_neg hd]
              go_wp2
              go_round
              case rel => exact ⟨k + 1, Z, by omega, by omega, by go_num, rfl, hZp, HF⟩
              case measure => simp [intOf]; omega
          · have h0' : 0 < (k : Int) := by omega
            by_cases hd0 : s[k].toNat = 0
            · have hd0' : ((s[k].toNat : Int) == 0) = true := by simp; omega
              have HF : Hid (readL s.data.toList = (0, 0, 4)) := by
                show _ = _
                rw [HR.out, ← HD.out, drop_at s k hsz, show 10 - k = 10 - (k + 1) + 1 by omega, rdZ, if_pos (by omega)]
                rfl
              try clear h9
              try clear h0
              try clear hd0
              go_wp2
              go_ret3
              exact ⟨by rw [HF.out]; rfl, rfl⟩
            · have hd0' : ((s[k].toNat : Int) == 0) = false := by simp; omega
              have hb := s[k].toNat_lt
              have hcond : ¬ ((k = 9 ∧ 1 < s[k].toNat) ∨ (0 < k ∧ s[k].toNat = 0)) := by omega
              obtain ⟨Z, hZ⟩ : ∃ Z, Z = z + s[k].toNat % 128 * 128 ^ k := ⟨_, rfl⟩
              have hbig := shl_or z s[k].toNat k (by omega) hz (by omega) (by omega)
              have hZlt := shl_lt z s[k].toNat k (by omega) hz (by omega)
              have hZp := shl_pow z s[k].toNat k hz
              have HN := hid (rdZ_step (10 - (k + 1)) k z s[k] (s.data.toList.drop (k + 1)) hcond)
              rw [← hZ] at hbig hZlt hZp HN
              rw [show 10 - (k + 1) + 1 = 10 - k by omega, ← drop_at s k hsz] at HN
              have HN2 := HN.out.symm.trans HD.out
              have HN3 := hid HN2
              clear HN HN2 hZ hcond hz
              try clear h9
              try clear h0
              try clear hd0
              by_cases hd : s[k].toNat < 128
              · have hd' : (s[k].toNat : Int) < 128 := by omega
                have HF : Hid (readL s.data.toList = (unzz Z, k + 1, 0)) := by
                  show _ = _
                  rw [HR.out, ← HN3.out, if_pos hd]
                  rfl
                go_wp2_with (go_at_call 80; refine (unfolded_any Z _ hZlt).mono ?_; rintro e w' ⟨rfl, rfl⟩)
                go_ret3
                exact ⟨by rw [HF.out]; go_num, rfl⟩
              · have hd' : ¬ (s[k].toNat : Int) < 128 := by omega
                have HF : Hid (rdZ (10 - (k + 1)) (k + 1) Z (s.data.toList.drop (k + 1)) = R) := by
                  show _ = _
                  rw [← HN3.out, if_neg hd]
                go_wp2
                go_round
                case rel => exact ⟨k + 1, Z, by omega, by omega, by go_num, rfl, hZp, HF⟩
                case measure => simp [intOf]; omega
      · have hsz' : ((k : Int) == (s.size : Int)) = true := by simp; omega
        have HF : Hid (readL s.data.toList = (0, 0, 5)) := by
          show _ = _
          rw [HR.out, ← HD.out, show 10 - k = 10 - (k + 1) + 1 by omega, List.drop_of_length_le (by simp; omega)]
          rfl
        go_wp2
        go_ret3
        exact ⟨by rw [HF.out]; rfl, rfl⟩
    · have hlt' : ¬ (k : Int) < 10 := by omega
      have HF : Hid (readL s.data.toList = (0, 0, 4)) := by
        show _ = _
        rw [HR.out, ← HD.out, show 10 - k = 0 by omega]
        rfl
      go_wp2
      go_ret3
      exact ⟨by rw [HF.out]; rfl, rfl⟩
end Go.Proofs.Ytkdbclnnmpnfgaa

/- Four bytes, of both. -/
namespace Go.Proofs.Ytkdbclnnmpnfgaa
open Go.RowKit Go.Maps
set_option linter.unusedSimpArgs false
set_option linter.unusedVariables false
set_option maxRecDepth 100000

theorem row_made (w : World) (cs : List Value) (l : List UInt8) (n : Nat) (h : cs = u8c l) (hn : n = l.length) (hm : n ≤ maxLen) : Row (w.alloc (.cells cs.toArray 5)) w.heap.size (.slice (some ⟨w.heap.size, 0, none⟩) n n) l := by
  subst h hn
  refine ⟨by simp [u8c], .inr ⟨w.heap.size, l.length, (u8c l).toArray, rfl, Nat.le_refl _, heap_alloc_new w _, Nat.le_refl _, hm, by simp [u8c], ?_⟩⟩
  show ((u8c l).toArray.toList).take (l.length * 1) = u8c l
  rw [List.take_of_length_le (by simp [u8c])]

theorem fourL_cells (n : Nat) (h : n < 4294967296) : [.int .u8 ((n : Int) / 16777216), .int .u8 ((n : Int) / 65536 % 256), .int .u8 ((n : Int) / 256 % 256), .int .u8 ((n : Int) % 256)] = u8c (fourL n) := by
  simp [u8c, fourL]
  omega
theorem four_conv (w : World) (n : Nat) (h : n < 4294967296) :
    (convert 85 9 (.slice (some ⟨w.heap.size, 0, none⟩) 4 4)).run Try.prog (w.alloc (.cells #[.int .u8 ((n : Int) / 16777216), .int .u8 ((n : Int) / 65536 % 256), .int .u8 ((n : Int) / 256 % 256), .int .u8 ((n : Int) % 256)] 5)) =
      .ok (.string (strOf (fourL n))) (w.alloc (.cells #[.int .u8 ((n : Int) / 16777216), .int .u8 ((n : Int) / 65536 % 256), .int .u8 ((n : Int) / 256 % 256), .int .u8 ((n : Int) % 256)] 5)) :=
  (row_made w _ (fourL n) 4 (fourL_cells n h) rfl (by unfold maxLen; omega)).conv

theorem i64_or_nat (a b : Nat) (ha : a < 9223372036854775808) (hb : b < 9223372036854775808) : bits .or .i64 (a : Int) (b : Int) = ((a ||| b : Nat) : Int) := by
  have hx : a ||| b < 2 ^ 63 := Nat.or_lt_two_pow (by omega) (by omega)
  show IntKind.i64.wrap ((BitVec.ofInt 64 (a : Int) ||| BitVec.ofInt 64 (b : Int)).toNat : Int) = _
  rw [BitVec.toNat_or, ofInt_u64 a (by omega), ofInt_u64 b (by omega), IntKind.wrap_i64]
  omega
theorem or_byte (a d : Nat) (ha : a < 16777216) (hd : d < 256) : bits .or .i64 ((a : Int) * 256) (d : Int) = ((a * 256 + d : Nat) : Int) := by
  have h := i64_or_nat (a * 256) d (by omega) (by omega)
  rw [nat_join 8 (a * 256) d (by omega) (by omega)] at h
  rw [show ((a : Int) * 256) = ((a * 256 : Nat) : Int) by omega, h]

def accN (l : List UInt8) : Nat := l.foldl (fun a b => a * 256 + b.toNat) 0
theorem accN_snoc (l : List UInt8) (b : UInt8) : accN (l ++ [b]) = accN l * 256 + b.toNat := by simp [accN]
theorem accN_lt (s : ByteArray) : ∀ k, k ≤ 4 → k ≤ s.size → accN (s.data.toList.take k) < 256 ^ k
  | 0, _, _ => by simp [accN]
  | k + 1, h, hs => by
    have ih := accN_lt s k (by omega) (by omega)
    have := s[k].toNat_lt
    rw [take_snoc s k (by omega), accN_snoc, Nat.pow_succ]
    omega
theorem accN_four (l : List UInt8) (h : 4 ≤ l.length) : accN (l.take 4) = fourN l := by
  match l, h with
  | a :: b :: c :: d :: r, _ => simp [accN, fourN]; omega

theorem fourN_at (s : ByteArray) (h4 : 4 ≤ s.size) : fourN s.data.toList = s[0].toNat * 16777216 + s[1].toNat * 65536 + s[2].toNat * 256 + s[3].toNat := by
  have e : s.data.toList = s[0] :: s[1] :: s[2] :: s[3] :: s.data.toList.drop 4 := by
    have h0 := drop_at s 0 (by omega)
    have h1 := drop_at s 1 (by omega)
    have h2 := drop_at s 2 (by omega)
    have h3 := drop_at s 3 (by omega)
    simp only [List.drop_zero, Nat.zero_add, Nat.reduceAdd] at h0 h1 h2 h3
    rw [h3] at h2
    rw [h2] at h1
    rw [h1] at h0
    exact h0
  have e2 := congrArg fourN e
  rw [e2]
  rfl

theorem idx_const (s : ByteArray) (k : Nat) (h : k < s.size) (w : World) : (Instr.index 9 (.string s) (.int .i64 (k : Int))).run Try.prog w = .ok (.int .u8 (s[k].toNat : Int)) w := by
  rw [run_index_string (P := Try.prog) w 9 s .i64 (k : Int) Try.underlying9]
  simp [h]

end Go.Proofs.Ytkdbclnnmpnfgaa

/- Batches in memory: their records, row by row; what looks at them: rightTimes, hasLongText. -/
namespace Go.Proofs.Ytkdbclnnmpnfgaa
open Go.RowKit Go.Maps
set_option linter.unusedSimpArgs false
set_option linter.unusedVariables false
set_option maxRecDepth 100000

def Rec.ok (r : Rec) : Prop := I64 r.time ∧ r.key.length ≤ maxLen ∧ r.val.length ≤ maxLen
def RecCells (w : World) (b o : Nat) (r : Rec) : Prop := w.cell? ⟨b, o, none⟩ = some (.string (strOf r.key)) ∧ w.cell? ⟨b, o + 1, none⟩ = some (.string (strOf r.val)) ∧ w.cell? ⟨b, o + 2, none⟩ = some (.int .i64 r.time)
def RecsAt (w : World) (a : Option Addr) (rs : List Rec) : Prop := rs = [] ∨ ∃ b off, a = some ⟨b, off, none⟩ ∧ b < w.heap.size ∧ ∀ i (h : i < rs.length), RecCells w b (off + i * 3) rs[i]
/-- A slice of records that is there. -/
structure Recs (w : World) (v : Value) (rs : List Rec) : Prop where
  shape : ∃ a cap, v = .slice a rs.length cap ∧ RecsAt w a rs
  ok : ∀ r ∈ rs, r.ok
  len : rs.length ≤ maxLen

theorem RecCells.under {w w' : World} {b o : Nat} {r : Rec} (h : RecCells w b o r) (e : w'.heap[b]? = w.heap[b]?) : RecCells w' b o r := by
  obtain ⟨h0, h1, h2⟩ := h
  exact ⟨(World.cell?_of_block (a := ⟨b, o, none⟩) e).trans h0, (World.cell?_of_block (a := ⟨b, o + 1, none⟩) e).trans h1, (World.cell?_of_block (a := ⟨b, o + 2, none⟩) e).trans h2⟩
theorem RecsAt.under {w w' : World} {a : Option Addr} {rs : List Rec} (h : RecsAt w a rs) (hb : Below w.heap.size w w') : RecsAt w' a rs := by
  rcases h with h | ⟨b, off, e, hl, hc⟩
  · exact .inl h
  · exact .inr ⟨b, off, e, Nat.lt_of_lt_of_le hl hb.size, fun i hi => (hc i hi).under (hb.block b hl)⟩
theorem Recs.under {w w' : World} {v : Value} {rs : List Rec} (h : Recs w v rs) (hb : Below w.heap.size w w') : Recs w' v rs := by
  obtain ⟨a, cap, e, ha⟩ := h.shape
  exact ⟨⟨a, cap, e, ha.under hb⟩, h.ok, h.len⟩
theorem Recs.at {w : World} {a : Option Addr} {cap : Nat} {rs : List Rec} (h : RecsAt w a rs) (k : Nat) (hk : k < rs.length) : ∃ b off, a = some ⟨b, off, none⟩ ∧ b < w.heap.size ∧ RecCells w b (off + k * 3) rs[k] := by
  rcases h with h | ⟨b, off, e, hl, hc⟩
  · subst h; simp at hk
  · exact ⟨b, off, e, hl, hc k hk⟩

theorem take_all (p : Rec → Bool) (l : List Rec) (k : Nat) (h : k < l.length) : (l.take (k + 1)).all p = ((l.take k).all p && p l[k]) := by
  rw [List.take_succ_eq_append_getElem h, List.all_append]; simp
theorem take_any (p : Rec → Bool) (l : List Rec) (k : Nat) (h : k < l.length) : (l.take (k + 1)).any p = ((l.take k).any p || p l[k]) := by
  rw [List.take_succ_eq_append_getElem h, List.any_append]; simp
theorem all_no (p : Rec → Bool) (l : List Rec) (k : Nat) (h : k < l.length) (hp : p l[k] = false) : l.all p = false := by
  rw [List.all_eq_false]; exact ⟨l[k], List.getElem_mem h, by simp [hp]⟩
theorem any_yes (p : Rec → Bool) (l : List Rec) (k : Nat) (h : k < l.length) (hp : p l[k] = true) : l.any p = true := by
  rw [List.any_eq_true]; exact ⟨l[k], List.getElem_mem h, hp⟩

set_option maxHeartbeats 800000 in
theorem rightTimes_any {w : World} {v : Value} {rs : List Rec} (h : Recs w v rs) :
    Calls Try.prog 56 #[v] w fun e w' => e = .returned (.bool (timesB rs)) ∧ Below w.heap.size w w' := by
  obtain ⟨a, cap, rfl, ha⟩ := h.shape
  have hok := hid h.ok
  have hlen := h.len
  unfold maxLen at hlen
  have HA := hid ha
  clear h ha
  go_enter Try.func56, Try.ntmps56
  go_wp2
  go_loopg [7] rs.length (fun kx s7 wr => ∃ k : Nat, k ≤ rs.length ∧ rs.length - k ≤ kx ∧ s7 = .int .i64 k ∧ Hid (Below w.heap.size w wr ∧ (rs.take k).all (fun r => inB r.time) = true))
  case atStart => exact ⟨0, by omega, by omega, rfl, Below.refl _ _, by simp⟩
  case round =>
    obtain ⟨k, hk, hkx, rfl, HD⟩ := hrel
    by_cases hlt : k < rs.length
    · have hlt' : (k : Int) < (rs.length : Int) := by omega
      obtain ⟨b, off, rfl, hbl, hc0, hc1, hc2⟩ := Recs.at (cap := cap) (HA.out.under HD.out.1) k hlt
      have hs := HD.out.1.size
      obtain ⟨⟨ht1, ht2⟩, ht3, ht4⟩ := hok.out rs[k] (List.getElem_mem hlt)
      unfold maxLen at ht3 ht4
      have hsn := hid (take_all (fun r => inB r.time) rs k hlt)
      have hno := hid (all_no (fun r => inB r.time) rs k hlt)
      generalize rs[k].time = T at *
      generalize strOf rs[k].key = K at *
      generalize strOf rs[k].val = V at *
      by_cases h1 : T < 0
      · have HF : Hid (timesB rs = false) := hno.out (by rw [Bool.eq_false_iff]; intro h; rw [inB_iff] at h; omega)
        go_wp2
        go_ret
        exact ⟨ret_bool HF.out.symm, HD.out.1.alloc hs _⟩
      · by_cases h2 : 1000000000 < T
        · have HF : Hid (timesB rs = false) := hno.out (by rw [Bool.eq_false_iff]; intro h; rw [inB_iff] at h; omega)
          go_wp2
          go_ret
          exact ⟨ret_bool HF.out.symm, HD.out.1.alloc hs _⟩
        · have HF : Hid ((rs.take (k + 1)).all (fun r => inB r.time) = true) := by
            show _ = _
            rw [hsn.out, HD.out.2, (inB_iff T).2 ⟨by omega, by omega⟩]
            rfl
          go_wp2
          go_roundg (rs.length - (k + 1))
          case measure => omega
          case rel => exact ⟨k + 1, by omega, Nat.le_refl _, by go_num, HD.out.1.alloc hs _, HF.out⟩
    · have hlt' : ¬ (k : Int) < (rs.length : Int) := by omega
      have he : rs.take k = rs := List.take_of_length_le (by omega)
      have HE := hid HD.out.2
      rw [he] at HE
      clear he
      go_wp2
      go_ret
      exact ⟨ret_bool (by exact HE.out.symm), HD.out.1⟩

set_option maxHeartbeats 800000 in
theorem hasLong_any {w : World} {v : Value} {rs : List Rec} (h : Recs w v rs) :
    Calls Try.prog 57 #[v] w fun e w' => e = .returned (.bool (longB rs)) ∧ Below w.heap.size w w' := by
  obtain ⟨a, cap, rfl, ha⟩ := h.shape
  have hok := hid h.ok
  have hlen := h.len
  unfold maxLen at hlen
  have HA := hid ha
  clear h ha
  go_enter Try.func57, Try.ntmps57
  go_wp2
  go_loopg [7] rs.length (fun kx s7 wr => ∃ k : Nat, k ≤ rs.length ∧ rs.length - k ≤ kx ∧ s7 = .int .i64 k ∧ Hid (Below w.heap.size w wr ∧ (rs.take k).any (fun r => decide (1000 < r.key.length) || decide (1000 < r.val.length)) = false))
  case atStart => exact ⟨0, by omega, by omega, rfl, Below.refl _ _, by simp⟩
  case round =>
    obtain ⟨k, hk, hkx, rfl, HD⟩ := hrel
    by_cases hlt : k < rs.length
    · have hlt' : (k : Int) < (rs.length : Int) := by omega
      obtain ⟨b, off, rfl, hbl, hc0, hc1, hc2⟩ := Recs.at (cap := cap) (HA.out.under HD.out.1) k hlt
      have hs := HD.out.1.size
      obtain ⟨⟨ht1, ht2⟩, ht3, ht4⟩ := hok.out rs[k] (List.getElem_mem hlt)
      unfold maxLen at ht3 ht4
      have hsn := hid (take_any (fun r => decide (1000 < r.key.length) || decide (1000 < r.val.length)) rs k hlt)
      have hno := hid (any_yes (fun r => decide (1000 < r.key.length) || decide (1000 < r.val.length)) rs k hlt)
      generalize rs[k].time = T at *
      generalize rs[k].key = K at *
      generalize rs[k].val = V at *
      by_cases h1 : 1000 < K.length
      · have h1' : 1000 < ((strOf K).size : Int) := by rw [strOf_size]; omega
        have HF : Hid (longB rs = true) := hno.out (by simp [h1])
        go_wp2
        go_ret
        exact ⟨ret_bool HF.out.symm, HD.out.1.alloc hs _⟩
      · have h1' : ¬ 1000 < ((strOf K).size : Int) := by rw [strOf_size]; omega
        by_cases h2 : 1000 < V.length
        · have h2' : 1000 < ((strOf V).size : Int) := by rw [strOf_size]; omega
          have HF : Hid (longB rs = true) := hno.out (by simp [h2])
          go_wp2
          go_ret
          exact ⟨ret_bool HF.out.symm, HD.out.1.alloc hs _⟩
        · have h2' : ¬ 1000 < ((strOf V).size : Int) := by rw [strOf_size]; omega
          have HF : Hid ((rs.take (k + 1)).any (fun r => decide (1000 < r.key.length) || decide (1000 < r.val.length)) = false) := by
            show _ = _
            rw [hsn.out, HD.out.2]
            simp [h1, h2]
          go_wp2
          go_roundg (rs.length - (k + 1))
          case measure => omega
          case rel => exact ⟨k + 1, by omega, Nat.le_refl _, by go_num, HD.out.1.alloc hs _, HF.out⟩
    · have hlt' : ¬ (k : Int) < (rs.length : Int) := by omega
      have he : rs.take k = rs := List.take_of_length_le (by omega)
      have HE := hid HD.out.2
      rw [he] at HE
      clear he
      go_wp2
      go_ret
      exact ⟨ret_bool (by exact HE.out.symm), HD.out.1⟩

end Go.Proofs.Ytkdbclnnmpnfgaa

/- A batch's numbers: batchNumbers, rightNumbers, goesOver. -/
namespace Go.Proofs.Ytkdbclnnmpnfgaa
open Go.RowKit Go.Maps
set_option linter.unusedSimpArgs false
set_option linter.unusedVariables false
set_option maxRecDepth 100000

def batV (b : Bat) (rv : Value) : Value := .agg #[.int .i64 b.base, .int .i64 b.epoch, .int .i64 b.pid, .int .i64 b.pidEpoch, .int .i64 b.seq, rv]
/-- A batch's numbers are ints. -/
structure Bat.ints (b : Bat) : Prop where
  h0 : I64 b.base
  h1 : I64 b.epoch
  h2 : I64 b.pid
  h3 : I64 b.pidEpoch
  h4 : I64 b.seq

theorem numbers_any (a0 a1 a2 a3 a4 : Int) (s : Option Addr) (n c : Nat) (w : World) :
    Calls Try.prog 76 #[.agg #[.int .i64 a0, .int .i64 a1, .int .i64 a2, .int .i64 a3, .int .i64 a4, .slice s n c]] w fun e w' => e = .returned (.agg #[.int .i64 a0, .int .i64 a1, .int .i64 a2, .int .i64 a3, .int .i64 a4]) ∧ Below w.heap.size w w' := by
  go_enter Try.func76, Try.ntmps76
  go_wp2
  refine bodyPost_ret (v := .agg #[.int .i64 a0, .int .i64 a1, .int .i64 a2, .int .i64 a3, .int .i64 a4]) (by simp [results, Try.results76, go_sem]) rfl ⟨rfl, ?_⟩
  exact ((Below.refl _ _).alloc (Nat.le_refl _) _).alloc (by simp) _

theorem over_any {w : World} (b : Bat) (s : Option Addr) (c : Nat) (hl : b.recs.length ≤ maxLen) :
    Calls Try.prog 58 #[.agg #[.int .i64 b.base, .int .i64 b.epoch, .int .i64 b.pid, .int .i64 b.pidEpoch, .int .i64 b.seq, .slice s b.recs.length c]] w fun e w' => e = .returned (.bool (overB b)) ∧ Below w.heap.size w w' := by
  unfold maxLen at hl
  have HO : Hid (overB b = (decide (1000000000 - ((b.recs.length : Int) - 1) < b.base) || decide (1000000 - ((b.recs.length : Int) - 1) < b.seq))) := rfl
  obtain ⟨a0, a1, a2, a3, a4, rs⟩ := b
  simp only at *
  by_cases h1 : 1000000000 - ((rs.length : Int) - 1) < a0
  · go_enter Try.func58, Try.ntmps58
    go_wp2
    go_ret
    exact ⟨ret_bool (by rw [HO.out]; simp [h1]), (Below.refl _ _).alloc (Nat.le_refl _) _⟩
  · by_cases h2 : 1000000 - ((rs.length : Int) - 1) < a4
    · go_enter Try.func58, Try.ntmps58
      go_wp2
      go_ret
      exact ⟨ret_bool (by rw [HO.out]; simp [h2]), (Below.refl _ _).alloc (Nat.le_refl _) _⟩
    · go_enter Try.func58, Try.ntmps58
      go_wp2
      go_ret
      exact ⟨ret_bool (by rw [HO.out]; simp [h1, h2]), (Below.refl _ _).alloc (Nat.le_refl _) _⟩

theorem ix0 (a0 a1 a2 a3 a4 : Int) (w : World) : (Instr.index 111 (.agg #[.int .i64 a0, .int .i64 a1, .int .i64 a2, .int .i64 a3, .int .i64 a4]) (.int .i64 0)).run Try.prog w = .ok (.int .i64 a0) w := by kernel_rfl
theorem ix1 (a0 a1 a2 a3 a4 : Int) (w : World) : (Instr.index 111 (.agg #[.int .i64 a0, .int .i64 a1, .int .i64 a2, .int .i64 a3, .int .i64 a4]) (.int .i64 1)).run Try.prog w = .ok (.int .i64 a1) w := by kernel_rfl
theorem ix2 (a0 a1 a2 a3 a4 : Int) (w : World) : (Instr.index 111 (.agg #[.int .i64 a0, .int .i64 a1, .int .i64 a2, .int .i64 a3, .int .i64 a4]) (.int .i64 2)).run Try.prog w = .ok (.int .i64 a2) w := by kernel_rfl
theorem ix3 (a0 a1 a2 a3 a4 : Int) (w : World) : (Instr.index 111 (.agg #[.int .i64 a0, .int .i64 a1, .int .i64 a2, .int .i64 a3, .int .i64 a4]) (.int .i64 3)).run Try.prog w = .ok (.int .i64 a3) w := by kernel_rfl
theorem ix4 (a0 a1 a2 a3 a4 : Int) (w : World) : (Instr.index 111 (.agg #[.int .i64 a0, .int .i64 a1, .int .i64 a2, .int .i64 a3, .int .i64 a4]) (.int .i64 4)).run Try.prog w = .ok (.int .i64 a4) w := by kernel_rfl
theorem index70 (a0 a1 a2 a3 a4 : Int) (k : Nat) (hk : k < 5) (w : World) : (Instr.index 111 (.agg #[.int .i64 a0, .int .i64 a1, .int .i64 a2, .int .i64 a3, .int .i64 a4]) (.int .i64 (k : Int))).run Try.prog w = .ok (.int .i64 ([a0, a1, a2, a3, a4].getD k 0)) w := by
  match k, hk with
  | 0, _ => exact ix0 a0 a1 a2 a3 a4 w
  | 1, _ => exact ix1 a0 a1 a2 a3 a4 w
  | 2, _ => exact ix2 a0 a1 a2 a3 a4 w
  | 3, _ => exact ix3 a0 a1 a2 a3 a4 w
  | 4, _ => exact ix4 a0 a1 a2 a3 a4 w

theorem box_cell {w w1 : World} {cs : Array Value} {T : TypeId} (hb : Below (w.alloc (.cells cs T)).heap.size (w.alloc (.cells cs T)) w1) (j : Nat) (u : Value) (hu : cs[j]? = some u) : w1.cell? ⟨w.heap.size, j, none⟩ = some u := by
  have h1 : w1.cell? ⟨w.heap.size, j, none⟩ = (w.alloc (.cells cs T)).cell? ⟨w.heap.size, j, none⟩ := hb.cell (p := ⟨w.heap.size, j, none⟩) (by simp)
  rw [h1]
  exact cell_new rfl hu
theorem box_below {w w1 : World} {o : Obj} (hb : Below (w.alloc o).heap.size (w.alloc o) w1) : Below w.heap.size w w1 := ((Below.refl _ w).alloc (Nat.le_refl _) o).trans (hb.mono (by simp))

def okN (k : Nat) (n : Int) : Prop := 0 ≤ n ∧ (0 < k → n ≤ 1000000000)
theorem numsB_no (b : Bat) (k : Nat) (hk : k < 5) (h : ¬ okN k ((numsOf b).getD k 0)) : numsB b = false := by
  rw [Bool.eq_false_iff]
  intro hb
  simp only [numsB, Bool.and_eq_true, decide_eq_true_eq, inB_iff] at hb
  obtain ⟨⟨⟨⟨⟨e1, e2⟩, e3⟩, e4⟩, e5⟩, _⟩ := hb
  apply h
  unfold okN numsOf
  match k, hk with
  | 0, _ => simp; omega
  | 1, _ => simp; omega
  | 2, _ => simp; omega
  | 3, _ => simp; omega
  | 4, _ => simp; omega
theorem numsB_yes (b : Bat) (h : ∀ k, k < 5 → okN k ((numsOf b).getD k 0)) : numsB b = (!(b.pid == 0) || (b.pidEpoch == 0 && b.seq == 0)) := by
  have g0 := h 0 (by omega)
  have g1 := h 1 (by omega)
  have g2 := h 2 (by omega)
  have g3 := h 3 (by omega)
  have g4 := h 4 (by omega)
  simp [okN, numsOf] at g0 g1 g2 g3 g4
  have e0 : decide (0 ≤ b.base) = true := by simp; omega
  have e1 := (inB_iff b.epoch).2 g1
  have e2 := (inB_iff b.pid).2 g2
  have e3 := (inB_iff b.pidEpoch).2 g3
  have e4 := (inB_iff b.seq).2 g4
  simp only [numsB, e0, e1, e2, e3, e4, Bool.true_and]

set_option maxHeartbeats 800000 in
theorem rightNums_any {w : World} (b : Bat) (s : Option Addr) (n c : Nat) (hi : b.ints) :
    Calls Try.prog 55 #[.agg #[.int .i64 b.base, .int .i64 b.epoch, .int .i64 b.pid, .int .i64 b.pidEpoch, .int .i64 b.seq, .slice s n c]] w fun e w' => e = .returned (.bool (numsB b)) ∧ Below w.heap.size w w' := by
  have hno := hid (numsB_no b)
  have hyes := hid (numsB_yes b)
  obtain ⟨A, hA⟩ : ∃ A : List Int, A = numsOf b := ⟨_, rfl⟩
  have HX : Hid (∀ (k : Nat), k < 5 → ∀ w, (Instr.index 111 (.agg #[.int .i64 b.base, .int .i64 b.epoch, .int .i64 b.pid, .int .i64 b.pidEpoch, .int .i64 b.seq]) (.int .i64 (k : Int))).run Try.prog w = .ok (.int .i64 (A.getD k 0)) w) := fun k hk w => by
    rw [hA]; exact index70 _ _ _ _ _ k hk w
  rw [← hA] at hno hyes
  clear hA hi
  generalize numsB b = R at *
  obtain ⟨a0, a1, a2, a3, a4, rs⟩ := b
  simp only at *
  go_enter Try.func55, Try.ntmps55
  go_wp2_with (go_at_call 76; refine (numbers_any _ _ _ _ _ _ _ _ _).mono ?_; rintro e w1 ⟨rfl, hb1⟩)
  have c2 := box_cell hb1 2 _ rfl
  have c3 := box_cell hb1 3 _ rfl
  have c4 := box_cell hb1 4 _ rfl
  have HB := hid (box_below hb1)
  clear hb1
  go_loop [7] (fun i => ∃ k : Nat, k ≤ 5 ∧ i = .int .i64 k ∧ Hid (∀ j, j < k → okN j (A.getD j 0))) (fun i => 5 - (intOf i).toNat)
  case atStart => exact ⟨0, by omega, rfl, fun j hj => by omega⟩
  case round =>
    obtain ⟨k, hk, rfl, HD⟩ := hrel
    by_cases hlt : k < 5
    · have hlt' : (k : Int) < 5 := by omega
      have hX := HX.out k hlt
      have hNO := hid (hno.out k hlt)
      have HS : Hid (okN k (A.getD k 0) → ∀ j, j < k + 1 → okN j (A.getD j 0)) := fun h j hj => by
        rcases Nat.lt_or_ge j k with h1 | h1
        · exact HD.out j h1
        · have : j = k := by omega
          subst this; exact h
      generalize A.getD k 0 = N at *
      by_cases h1 : N < 0
      · have HF : Hid (R = false) := hNO.out (fun h => by have := h.1; omega)
        go_wp2
        go_ret
        exact ⟨ret_bool HF.out.symm, HB.out⟩
      · by_cases h0 : 0 < k
        · have h0' : 0 < (k : Int) := by omega
          by_cases h2 : 1000000000 < N
          · have HF : Hid (R = false) := hNO.out (fun h => by have := h.2 h0; omega)
            go_wp2
            go_ret
            exact ⟨ret_bool HF.out.symm, HB.out⟩
          · have HF := hid (HS.out ⟨by omega, fun _ => by omega⟩)
            go_wp2
            go_round
            case rel => exact ⟨k + 1, by omega, by go_num, HF⟩
            case measure => simp [intOf]; omega
        · have h0' : ¬ 0 < (k : Int) := by omega
          have HF := hid (HS.out ⟨by omega, fun h => by omega⟩)
          clear h0
          go_wp2
          go_round
          case rel => exact ⟨k + 1, by omega, by go_num, HF⟩
          case measure => simp [intOf]; omega
    · have hlt' : ¬ (k : Int) < 5 := by omega
      have HF := hid (hyes.out (fun j hj => HD.out j (by omega)))
      by_cases p1 : a2 = 0
      · have p1' : (a2 == 0) = true := by simp [p1]
        have p1n : (a2 != 0) = false := by simp [p1]
        by_cases p2 : a3 = 0
        · have p2' : (a3 == 0) = true := by simp [p2]
          by_cases p3 : a4 = 0
          · have p3' : (a4 == 0) = true := by simp [p3]
            have HG := hid HF.out
            rw [p1', p2', p3'] at HG
            clear p1 p2 p3
            go_wp2
            go_ret
            exact ⟨ret_bool (by rw [HG.out]; rfl), HB.out⟩
          · have p3' : (a4 == 0) = false := by simp [p3]
            have HG := hid HF.out
            rw [p1', p2', p3'] at HG
            clear p1 p2 p3
            go_wp2
            go_ret
            exact ⟨ret_bool (by rw [HG.out]; rfl), HB.out⟩
        · have p2' : (a3 == 0) = false := by simp [p2]
          have HG := hid HF.out
          rw [p1', p2'] at HG
          clear p1 p2
          go_wp2
          go_ret
          exact ⟨ret_bool (by rw [HG.out]; rfl), HB.out⟩
      · have p1' : (a2 == 0) = false := by simp [p1]
        have p1n : (a2 != 0) = true := by simp [p1]
        have HG := hid HF.out
        rw [p1'] at HG
        clear p1
        go_wp2
        go_ret
        exact ⟨ret_bool (by rw [HG.out]; rfl), HB.out⟩
end Go.Proofs.Ytkdbclnnmpnfgaa

