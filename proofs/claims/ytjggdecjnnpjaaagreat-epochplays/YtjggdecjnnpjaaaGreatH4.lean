/- ReadInt of the document. -/
import Derived.Test.YtjggdecjnnpjaaaGreatH3
import Derived.Deep.QuietTactic
import Derived.BigQuiet
import Derived.Lib.AppendStr
namespace Go.Proofs.YtjggdecjnnpjaaaGreat
open Go.RowKit Go.Maps
set_option linter.unusedSimpArgs false
set_option linter.unusedVariables false
set_option maxRecDepth 100000

theorem pow_lt64 (k : Nat) (hk : k ≤ 9) : 128 ^ k % 18446744073709551616 = 128 ^ k := by
  have h9' : (128 : Nat) ^ 9 = 9223372036854775808 := by decide
  have hp : 128 ^ k ≤ 128 ^ 9 := Nat.pow_le_pow_right (by omega) (by omega)
  exact Nat.mod_eq_of_lt (by omega)
theorem pow_next (k : Nat) (hk : k ≤ 9) : IntKind.u64.wrap (((128 ^ k % 18446744073709551616 : Nat) : Int) * 128) = ((128 ^ (k + 1) % 18446744073709551616 : Nat) : Int) := by
  rw [pow_lt64 k hk, IntKind.wrap_u64, Nat.pow_succ]
  omega
theorem mul_add (z d k : Nat) (hk : k ≤ 9) (hz : z < 128 ^ k) (h9 : k = 9 → d ≤ 1) :
    IntKind.u64.wrap ((z : Int) + IntKind.u64.wrap ((d : Int) % 128 * ((128 ^ k % 18446744073709551616 : Nat) : Int))) = ((z + d % 128 * 128 ^ k : Nat) : Int) := by
  have hlt := shl_lt z d k hk hz h9
  rw [pow_lt64 k hk, show (d : Int) % 128 = ((d % 128 : Nat) : Int) by omega, ← Int.natCast_mul]
  generalize d % 128 * 128 ^ k = M at *
  rw [IntKind.wrap_u64, IntKind.wrap_u64]
  omega

set_option maxHeartbeats 1600000 in
theorem rreadInt_any (s : ByteArray) (w : World) (hs : s.size ≤ maxLen) :
    Calls Tryz.prog 65 #[.string s] w fun e w' => e = .returned (.tuple #[.int .i64 (readL s.data.toList).1, .int .i64 ((readL s.data.toList).2.1 : Nat), .int .i64 (readL s.data.toList).2.2]) ∧ w = w' := by
  unfold maxLen at hs
  obtain ⟨R, hR⟩ : ∃ R, R = rdZ 10 0 0 s.data.toList := ⟨_, rfl⟩
  have HR : Hid (readL s.data.toList = okI R) := by show _ = _; rw [hR]; rfl
  have H0 : Hid (rdZ (10 - 0) 0 0 (s.data.toList.drop 0) = R) := hR.symm
  clear hR
  go_enter Tryz.func65, Tryz.ntmps65
  go_wp2
  go_loop [5, 6, 7] (fun c p i => ∃ k z : Nat, k ≤ 10 ∧ k ≤ s.size ∧ i = .int .i64 k ∧ c = .int .u64 z ∧ p = .int .u64 ((128 ^ k % 18446744073709551616 : Nat) : Int) ∧ z < 128 ^ k ∧ Hid (rdZ (10 - k) k z (s.data.toList.drop k) = R)) (fun _ _ i => 10 - (intOf i).toNat)
  case atStart => exact ⟨0, 0, Nat.zero_le _, Nat.zero_le _, rfl, rfl, rfl, by simp, H0⟩
  case round =>
    obtain ⟨k, z, hk, hks, rfl, rfl, rfl, hz, HD⟩ := hrel
    clear H0
    by_cases hlt : k < 10
    · have hlt' : (k : Int) < 10 := by omega
      by_cases hsz : k < s.size
      · have hsz' : ¬ (s.size : Int) ≤ (k : Int) := by omega
        have hb := s[k].toNat_lt
        by_cases h9 : k = 9
        · have h9' : ((k : Int) == 9) = true := by simp; omega
          by_cases hd1 : 1 < s[k].toNat
          · have hd1' : 1 < (s[k].toNat : Int) := by omega
            have HF : Hid (readL s.data.toList = (0, 0, 4)) := by
              show _ = _
              rw [HR.out, ← HD.out, drop_at s k hsz, show 10 - k = 10 - (k + 1) + 1 by omega, rdZ, if_pos (by omega)]
              rfl
            clear h9
            go_wp2
            go_ret3
            exact ⟨by rw [HF.out]; rfl, rfl⟩
          · have hd1' : ¬ 1 < (s[k].toNat : Int) := by omega
            obtain ⟨Z, hZ⟩ : ∃ Z, Z = z + s[k].toNat % 128 * 128 ^ k := ⟨_, rfl⟩
            have hbig := mul_add z s[k].toNat k (by omega) hz (by omega)
            have hpw := pow_next k (by omega)
            have hZlt := shl_lt z s[k].toNat k (by omega) hz (by omega)
            have hZp := shl_pow z s[k].toNat k hz
            rw [← hZ] at hbig hZlt hZp
            obtain ⟨P1, hP1⟩ : ∃ P1, P1 = 128 ^ (k + 1) % 18446744073709551616 := ⟨_, rfl⟩
            have HP1 := hid hP1
            rw [← hP1] at hpw
            clear hP1
            generalize 128 ^ k % 18446744073709551616 = P at *
            by_cases hd : s[k].toNat < 128
            · have hd' : ¬ 128 ≤ (s[k].toNat : Int) := by omega
              by_cases h0 : 0 < k
              · have h0' : 0 < (k : Int) := by omega
                by_cases hd0 : s[k].toNat = 0
                · have hd0' : ((s[k].toNat : Int) == 0) = true := by simp; omega
                  have HF : Hid (readL s.data.toList = (0, 0, 4)) := by
                    show _ = _
                    rw [HR.out, ← HD.out, drop_at s k hsz, show 10 - k = 10 - (k + 1) + 1 by omega, rdZ, if_pos (by omega)]
                    rfl
                  clear hd0 hZ h9 hd1
                  go_wp2
                  go_ret3
                  exact ⟨by rw [HF.out]; rfl, rfl⟩
                · have hd0' : ((s[k].toNat : Int) == 0) = false := by simp; omega
                  have HN := hid (rdZ_step (10 - (k + 1)) k z s[k] (s.data.toList.drop (k + 1)) (by omega))
                  rw [← hZ, show 10 - (k + 1) + 1 = 10 - k by omega, ← drop_at s k hsz] at HN
                  have HN3 := hid (HN.out.symm.trans HD.out)
                  clear HN
                  have HF : Hid (readL s.data.toList = (unzz Z, k + 1, 0)) := by
                    show _ = _
                    rw [HR.out, ← HN3.out, if_pos hd]
                    rfl
                  by_cases ho : Z % 2 = 1
                  · have ho' : ((Z : Int) % 2 == 1) = true := by simp; omega
                    have HU : Hid (unzz Z = -((Z : Int) / 2) - 1) := by show _ = _; unfold unzz; rw [if_pos ho]; omega
                    clear hZ ho hd0 h9 hd1
                    go_wp2
                    go_ret3
                    exact ⟨by rw [HF.out, HU.out]; go_num, rfl⟩
                  · have ho' : ((Z : Int) % 2 == 1) = false := by simp; omega
                    have HU : Hid (unzz Z = (Z : Int) / 2) := by show _ = _; unfold unzz; rw [if_neg ho]; omega
                    clear hZ ho hd0 h9 hd1
                    go_wp2
                    go_ret3
                    exact ⟨by rw [HF.out, HU.out]; go_num, rfl⟩
              · have h0' : ¬ 0 < (k : Int) := by omega
                omega
            · have hd' : 128 ≤ (s[k].toNat : Int) := by omega
              omega
        · have h9' : ((k : Int) == 9) = false := by simp; omega
          obtain ⟨Z, hZ⟩ : ∃ Z, Z = z + s[k].toNat % 128 * 128 ^ k := ⟨_, rfl⟩
          have hbig := mul_add z s[k].toNat k (by omega) hz (by omega)
          have hpw := pow_next k (by omega)
          have hZlt := shl_lt z s[k].toNat k (by omega) hz (by omega)
          have hZp := shl_pow z s[k].toNat k hz
          rw [← hZ] at hbig hZlt hZp
          obtain ⟨P1, hP1⟩ : ∃ P1, P1 = 128 ^ (k + 1) % 18446744073709551616 := ⟨_, rfl⟩
          have HP1 := hid hP1
          rw [← hP1] at hpw
          clear hP1
          generalize 128 ^ k % 18446744073709551616 = P at *
          by_cases hd : s[k].toNat < 128
          · have hd' : ¬ 128 ≤ (s[k].toNat : Int) := by omega
            by_cases h0 : 0 < k
            · have h0' : 0 < (k : Int) := by omega
              by_cases hd0 : s[k].toNat = 0
              · have hd0' : ((s[k].toNat : Int) == 0) = true := by simp; omega
                have HF : Hid (readL s.data.toList = (0, 0, 4)) := by
                  show _ = _
                  rw [HR.out, ← HD.out, drop_at s k hsz, show 10 - k = 10 - (k + 1) + 1 by omega, rdZ, if_pos (by omega)]
                  rfl
                clear hd0 hZ h9
                go_wp2
                go_ret3
                exact ⟨by rw [HF.out]; rfl, rfl⟩
              · have hd0' : ((s[k].toNat : Int) == 0) = false := by simp; omega
                have HN := hid (rdZ_step (10 - (k + 1)) k z s[k] (s.data.toList.drop (k + 1)) (by omega))
                rw [← hZ, show 10 - (k + 1) + 1 = 10 - k by omega, ← drop_at s k hsz] at HN
                have HN3 := hid (HN.out.symm.trans HD.out)
                clear HN
                have HF : Hid (readL s.data.toList = (unzz Z, k + 1, 0)) := by
                  show _ = _
                  rw [HR.out, ← HN3.out, if_pos hd]
                  rfl
                by_cases ho : Z % 2 = 1
                · have ho' : ((Z : Int) % 2 == 1) = true := by simp; omega
                  have HU : Hid (unzz Z = -((Z : Int) / 2) - 1) := by show _ = _; unfold unzz; rw [if_pos ho]; omega
                  clear hZ ho hd0 h9
                  go_wp2
                  go_ret3
                  exact ⟨by rw [HF.out, HU.out]; go_num, rfl⟩
                · have ho' : ((Z : Int) % 2 == 1) = false := by simp; omega
                  have HU : Hid (unzz Z = (Z : Int) / 2) := by show _ = _; unfold unzz; rw [if_neg ho]; omega
                  clear hZ ho hd0 h9
                  go_wp2
                  go_ret3
                  exact ⟨by rw [HF.out, HU.out]; go_num, rfl⟩
            · have h0' : ¬ 0 < (k : Int) := by omega
              have HN := hid (rdZ_step (10 - (k + 1)) k z s[k] (s.data.toList.drop (k + 1)) (by omega))
              rw [← hZ, show 10 - (k + 1) + 1 = 10 - k by omega, ← drop_at s k hsz] at HN
              have HN3 := hid (HN.out.symm.trans HD.out)
              clear HN
              have HF : Hid (readL s.data.toList = (unzz Z, k + 1, 0)) := by
                show _ = _
                rw [HR.out, ← HN3.out, if_pos hd]
                rfl
              by_cases ho : Z % 2 = 1
              · have ho' : ((Z : Int) % 2 == 1) = true := by simp; omega
                have HU : Hid (unzz Z = -((Z : Int) / 2) - 1) := by show _ = _; unfold unzz; rw [if_pos ho]; omega
                clear hZ ho h0 h9
                go_wp2
                go_ret3
                exact ⟨by rw [HF.out, HU.out]; go_num, rfl⟩
              · have ho' : ((Z : Int) % 2 == 1) = false := by simp; omega
                have HU : Hid (unzz Z = (Z : Int) / 2) := by show _ = _; unfold unzz; rw [if_neg ho]; omega
                clear hZ ho h0 h9
                go_wp2
                go_ret3
                exact ⟨by rw [HF.out, HU.out]; go_num, rfl⟩
          · have hd' : 128 ≤ (s[k].toNat : Int) := by omega
            have HN := hid (rdZ_step (10 - (k + 1)) k z s[k] (s.data.toList.drop (k + 1)) (by omega))
            rw [← hZ, show 10 - (k + 1) + 1 = 10 - k by omega, ← drop_at s k hsz] at HN
            have HN3 := hid (HN.out.symm.trans HD.out)
            clear HN
            have HF : Hid (rdZ (10 - (k + 1)) (k + 1) Z (s.data.toList.drop (k + 1)) = R) := by
              show _ = _
              rw [← HN3.out, if_neg hd]
            clear hZ h9
            go_wp2
            go_round
            case rel => exact ⟨k + 1, Z, by omega, by omega, by go_num, rfl, by rw [← HP1.out], hZp, HF⟩
            case measure => simp [intOf]; omega
      · have hsz' : (s.size : Int) ≤ (k : Int) := by omega
        have HF : Hid (readL s.data.toList = (0, 0, 5)) := by
          show _ = _
          rw [HR.out, ← HD.out, show 10 - k = 10 - (k + 1) + 1 by omega, List.drop_of_length_le (by simp; omega)]
          rfl
        go_wp2
        go_ret3
        exact ⟨by rw [HF.out]; rfl, rfl⟩
    · have hlt' : ¬ (k : Int) < 10 := by omega
      have HF : Hid (readL s.data.toList = (0, 0, 4)) := by
        show _ = _
        rw [HR.out, ← HD.out, show 10 - k = 0 by omega]
        rfl
      go_wp2
      go_ret3
      exact ⟨by rw [HF.out]; rfl, rfl⟩
end Go.Proofs.YtjggdecjnnpjaaaGreat

/- Four bytes, of both. -/
namespace Go.Proofs.YtjggdecjnnpjaaaGreat
open Go.RowKit Go.Maps
set_option linter.unusedSimpArgs false
set_option linter.unusedVariables false
set_option maxRecDepth 100000

theorem row_made (w : World) (cs : List Value) (l : List UInt8) (n : Nat) (h : cs = u8c l) (hn : n = l.length) (hm : n ≤ maxLen) : Row (w.alloc (.cells cs.toArray 5)) w.heap.size (.slice (some ⟨w.heap.size, 0, none⟩) n n) l := by
  subst h hn
  refine ⟨by simp [u8c], .inr ⟨w.heap.size, l.length, (u8c l).toArray, rfl, Nat.le_refl _, heap_alloc_new w _, Nat.le_refl _, hm, by simp [u8c], ?_⟩⟩
  show ((u8c l).toArray.toList).take (l.length * 1) = u8c l
  rw [List.take_of_length_le (by simp [u8c])]

theorem fourL_cells (n : Nat) (h : n < 4294967296) : [.int .u8 ((n : Int) / 16777216), .int .u8 ((n : Int) / 65536 % 256), .int .u8 ((n : Int) / 256 % 256), .int .u8 ((n : Int) % 256)] = u8c (fourL n) := by
  simp [u8c, fourL]
  omega
theorem four_conv (w : World) (n : Nat) (h : n < 4294967296) :
    (convert 77 9 (.slice (some ⟨w.heap.size, 0, none⟩) 4 4)).run Tryz.prog (w.alloc (.cells #[.int .u8 ((n : Int) / 16777216), .int .u8 ((n : Int) / 65536 % 256), .int .u8 ((n : Int) / 256 % 256), .int .u8 ((n : Int) % 256)] 5)) =
      .ok (.string (strOf (fourL n))) (w.alloc (.cells #[.int .u8 ((n : Int) / 16777216), .int .u8 ((n : Int) / 65536 % 256), .int .u8 ((n : Int) / 256 % 256), .int .u8 ((n : Int) % 256)] 5)) :=
  (row_made w _ (fourL n) 4 (fourL_cells n h) rfl (by unfold maxLen; omega)).conv

set_option maxHeartbeats 400000 in
theorem rfour_any (n : Nat) (w : World) (h : n < 4294967296) : Calls Tryz.prog 46 #[.int .i64 (n : Int)] w fun e w' => e = .returned (.string (strOf (fourL n))) ∧ Below w.heap.size w w' := by
  have hcv := four_conv w n h
  go_enter Tryz.func46, Tryz.ntmps46
  go_wp2
  go_ret
  exact ⟨rfl, (Below.refl _ _).alloc (Nat.le_refl _) _⟩

theorem i64_or_nat (a b : Nat) (ha : a < 9223372036854775808) (hb : b < 9223372036854775808) : bits .or .i64 (a : Int) (b : Int) = ((a ||| b : Nat) : Int) := by
  have hx : a ||| b < 2 ^ 63 := Nat.or_lt_two_pow (by omega) (by omega)
  show IntKind.i64.wrap ((BitVec.ofInt 64 (a : Int) ||| BitVec.ofInt 64 (b : Int)).toNat : Int) = _
  rw [BitVec.toNat_or, ofInt_u64 a (by omega), ofInt_u64 b (by omega), IntKind.wrap_i64]
  omega
theorem or_byte (a d : Nat) (ha : a < 16777216) (hd : d < 256) : bits .or .i64 ((a : Int) * 256) (d : Int) = ((a * 256 + d : Nat) : Int) := by
  have h := i64_or_nat (a * 256) d (by omega) (by omega)
  rw [nat_join 8 (a * 256) d (by omega) (by omega)] at h
  rw [show ((a : Int) * 256) = ((a * 256 : Nat) : Int) by omega, h]

def accN (l : List UInt8) : Nat := l.foldl (fun a b => a * 256 + b.toNat) 0
theorem accN_snoc (l : List UInt8) (b : UInt8) : accN (l ++ [b]) = accN l * 256 + b.toNat := by simp [accN]
theorem accN_lt (s : ByteArray) : ∀ k, k ≤ 4 → k ≤ s.size → accN (s.data.toList.take k) < 256 ^ k
  | 0, _, _ => by simp [accN]
  | k + 1, h, hs => by
    have ih := accN_lt s k (by omega) (by omega)
    have := s[k].toNat_lt
    rw [take_snoc s k (by omega), accN_snoc, Nat.pow_succ]
    omega
theorem accN_four (l : List UInt8) (h : 4 ≤ l.length) : accN (l.take 4) = fourN l := by
  match l, h with
  | a :: b :: c :: d :: r, _ => simp [accN, fourN]; omega

theorem fourN_at (s : ByteArray) (h4 : 4 ≤ s.size) : fourN s.data.toList = s[0].toNat * 16777216 + s[1].toNat * 65536 + s[2].toNat * 256 + s[3].toNat := by
  have e : s.data.toList = s[0] :: s[1] :: s[2] :: s[3] :: s.data.toList.drop 4 := by
    have h0 := drop_at s 0 (by omega)
    have h1 := drop_at s 1 (by omega)
    have h2 := drop_at s 2 (by omega)
    have h3 := drop_at s 3 (by omega)
    simp only [List.drop_zero, Nat.zero_add, Nat.reduceAdd] at h0 h1 h2 h3
    rw [h3] at h2
    rw [h2] at h1
    rw [h1] at h0
    exact h0
  have e2 := congrArg fourN e
  rw [e2]
  rfl

theorem idx_const (s : ByteArray) (k : Nat) (h : k < s.size) (w : World) : (Instr.index 9 (.string s) (.int .i64 (k : Int))).run Tryz.prog w = .ok (.int .u8 (s[k].toNat : Int)) w := by
  rw [run_index_string (P := Tryz.prog) w 9 s .i64 (k : Int) Tryz.underlying9]
  simp [h]

end Go.Proofs.YtjggdecjnnpjaaaGreat

/- Batches in memory: their records, row by row; what looks at them: rightTimes, hasLongText. -/
namespace Go.Proofs.YtjggdecjnnpjaaaGreat
open Go.RowKit Go.Maps
set_option linter.unusedSimpArgs false
set_option linter.unusedVariables false
set_option maxRecDepth 100000

def Rec.ok (r : Rec) : Prop := I64 r.time ∧ r.key.length ≤ maxLen ∧ r.val.length ≤ maxLen
def RecCells (w : World) (b o : Nat) (r : Rec) : Prop := w.cell? ⟨b, o, none⟩ = some (.string (strOf r.key)) ∧ w.cell? ⟨b, o + 1, none⟩ = some (.string (strOf r.val)) ∧ w.cell? ⟨b, o + 2, none⟩ = some (.int .i64 r.time)
def RecsAt (w : World) (a : Option Addr) (rs : List Rec) : Prop := rs = [] ∨ ∃ b off, a = some ⟨b, off, none⟩ ∧ b < w.heap.size ∧ ∀ i (h : i < rs.length), RecCells w b (off + i * 3) rs[i]
/-- A slice of records that is there. -/
structure Recs (w : World) (v : Value) (rs : List Rec) : Prop where
  shape : ∃ a cap, v = .slice a rs.length cap ∧ RecsAt w a rs
  ok : ∀ r ∈ rs, r.ok
  len : rs.length ≤ maxLen

theorem RecCells.under {w w' : World} {b o : Nat} {r : Rec} (h : RecCells w b o r) (e : w'.heap[b]? = w.heap[b]?) : RecCells w' b o r := by
  obtain ⟨h0, h1, h2⟩ := h
  exact ⟨(World.cell?_of_block (a := ⟨b, o, none⟩) e).trans h0, (World.cell?_of_block (a := ⟨b, o + 1, none⟩) e).trans h1, (World.cell?_of_block (a := ⟨b, o + 2, none⟩) e).trans h2⟩
theorem RecsAt.under {w w' : World} {a : Option Addr} {rs : List Rec} (h : RecsAt w a rs) (hb : Below w.heap.size w w') : RecsAt w' a rs := by
  rcases h with h | ⟨b, off, e, hl, hc⟩
  · exact .inl h
  · exact .inr ⟨b, off, e, Nat.lt_of_lt_of_le hl hb.size, fun i hi => (hc i hi).under (hb.block b hl)⟩
theorem Recs.under {w w' : World} {v : Value} {rs : List Rec} (h : Recs w v rs) (hb : Below w.heap.size w w') : Recs w' v rs := by
  obtain ⟨a, cap, e, ha⟩ := h.shape
  exact ⟨⟨a, cap, e, ha.under hb⟩, h.ok, h.len⟩
theorem Recs.at {w : World} {a : Option Addr} {cap : Nat} {rs : List Rec} (h : RecsAt w a rs) (k : Nat) (hk : k < rs.length) : ∃ b off, a = some ⟨b, off, none⟩ ∧ b < w.heap.size ∧ RecCells w b (off + k * 3) rs[k] := by
  rcases h with h | ⟨b, off, e, hl, hc⟩
  · subst h; simp at hk
  · exact ⟨b, off, e, hl, hc k hk⟩

theorem take_all (p : Rec → Bool) (l : List Rec) (k : Nat) (h : k < l.length) : (l.take (k + 1)).all p = ((l.take k).all p && p l[k]) := by
  rw [List.take_succ_eq_append_getElem h, List.all_append]; simp
theorem take_any (p : Rec → Bool) (l : List Rec) (k : Nat) (h : k < l.length) : (l.take (k + 1)).any p = ((l.take k).any p || p l[k]) := by
  rw [List.take_succ_eq_append_getElem h, List.any_append]; simp
theorem all_no (p : Rec → Bool) (l : List Rec) (k : Nat) (h : k < l.length) (hp : p l[k] = false) : l.all p = false := by
  rw [List.all_eq_false]; exact ⟨l[k], List.getElem_mem h, by simp [hp]⟩
theorem any_yes (p : Rec → Bool) (l : List Rec) (k : Nat) (h : k < l.length) (hp : p l[k] = true) : l.any p = true := by
  rw [List.any_eq_true]; exact ⟨l[k], List.getElem_mem h, hp⟩

end Go.Proofs.YtjggdecjnnpjaaaGreat

/- A batch's numbers: batchNumbers, rightNumbers, goesOver. -/
namespace Go.Proofs.YtjggdecjnnpjaaaGreat
open Go.RowKit Go.Maps
set_option linter.unusedSimpArgs false
set_option linter.unusedVariables false
set_option maxRecDepth 100000

def batV (b : Bat) (rv : Value) : Value := .agg #[.int .i64 b.base, .int .i64 b.epoch, .int .i64 b.pid, .int .i64 b.pidEpoch, .int .i64 b.seq, rv]
/-- A batch's numbers are ints. -/
structure Bat.ints (b : Bat) : Prop where
  h0 : I64 b.base
  h1 : I64 b.epoch
  h2 : I64 b.pid
  h3 : I64 b.pidEpoch
  h4 : I64 b.seq

theorem box_cell {w w1 : World} {cs : Array Value} {T : TypeId} (hb : Below (w.alloc (.cells cs T)).heap.size (w.alloc (.cells cs T)) w1) (j : Nat) (u : Value) (hu : cs[j]? = some u) : w1.cell? ⟨w.heap.size, j, none⟩ = some u := by
  have h1 : w1.cell? ⟨w.heap.size, j, none⟩ = (w.alloc (.cells cs T)).cell? ⟨w.heap.size, j, none⟩ := hb.cell (p := ⟨w.heap.size, j, none⟩) (by simp)
  rw [h1]
  exact cell_new rfl hu
theorem box_below {w w1 : World} {o : Obj} (hb : Below (w.alloc o).heap.size (w.alloc o) w1) : Below w.heap.size w w1 := ((Below.refl _ w).alloc (Nat.le_refl _) o).trans (hb.mono (by simp))

def okN (k : Nat) (n : Int) : Prop := 0 ≤ n ∧ (0 < k → n ≤ 1000000000)
theorem numsB_no (b : Bat) (k : Nat) (hk : k < 5) (h : ¬ okN k ((numsOf b).getD k 0)) : numsB b = false := by
  rw [Bool.eq_false_iff]
  intro hb
  simp only [numsB, Bool.and_eq_true, decide_eq_true_eq, inB_iff] at hb
  obtain ⟨⟨⟨⟨⟨e1, e2⟩, e3⟩, e4⟩, e5⟩, _⟩ := hb
  apply h
  unfold okN numsOf
  match k, hk with
  | 0, _ => simp; omega
  | 1, _ => simp; omega
  | 2, _ => simp; omega
  | 3, _ => simp; omega
  | 4, _ => simp; omega
theorem numsB_yes (b : Bat) (h : ∀ k, k < 5 → okN k ((numsOf b).getD k 0)) : numsB b = (!(b.pid == 0) || (b.pidEpoch == 0 && b.seq == 0)) := by
  have g0 := h 0 (by omega)
  have g1 := h 1 (by omega)
  have g2 := h 2 (by omega)
  have g3 := h 3 (by omega)
  have g4 := h 4 (by omega)
  simp [okN, numsOf] at g0 g1 g2 g3 g4
  have e0 : decide (0 ≤ b.base) = true := by simp; omega
  have e1 := (inB_iff b.epoch).2 g1
  have e2 := (inB_iff b.pid).2 g2
  have e3 := (inB_iff b.pidEpoch).2 g3
  have e4 := (inB_iff b.seq).2 g4
  simp only [numsB, e0, e1, e2, e3, e4, Bool.true_and]

end Go.Proofs.YtjggdecjnnpjaaaGreat

/- What writes lists of ints, texts, a batch's body. -/
namespace Go.Proofs.YtjggdecjnnpjaaaGreat
open Go.RowKit Go.Maps
set_option linter.unusedSimpArgs false
set_option linter.unusedVariables false
set_option maxRecDepth 100000

def IntsAt (w : World) (a : Option Addr) (B : Nat) (ns : List Int) : Prop := ns = [] ∨ ∃ b off, a = some ⟨b, off, none⟩ ∧ b < B ∧ ∀ i (h : i < ns.length), w.cell? ⟨b, off + i, none⟩ = some (.int .i64 ns[i])
theorem IntsAt.under {w w' : World} {a : Option Addr} {B : Nat} {ns : List Int} (h : IntsAt w a B ns) (hb : Below B w w') : IntsAt w' a B ns := by
  rcases h with h | ⟨b, off, e, hl, hc⟩
  · exact .inl h
  · exact .inr ⟨b, off, e, hl, fun i hi => (World.cell?_of_block (a := ⟨b, off + i, none⟩) (hb.block b hl)).trans (hc i hi)⟩
theorem IntsAt.at {w : World} {a : Option Addr} {B : Nat} {ns : List Int} (h : IntsAt w a B ns) (k : Nat) (hk : k < ns.length) : ∃ b off, a = some ⟨b, off, none⟩ ∧ w.cell? ⟨b, off + k, none⟩ = some (.int .i64 ns[k]) := by
  rcases h with h | ⟨b, off, e, hl, hc⟩
  · subst h; simp at hk
  · exact ⟨b, off, e, hc k hk⟩

theorem ints_take (ns : List Int) (k : Nat) (h : k < ns.length) : intsL (ns.take (k + 1)) = intsL (ns.take k) ++ intL ns[k] := by
  rw [List.take_succ_eq_append_getElem h, intsL_snoc]

theorem strCells_eq (l : List UInt8) : Lib.strCells (strOf l) = u8c l := by
  unfold Lib.strCells u8c
  rw [strOf_data]

/-- A string's bytes behind a row that is there: where the new row lies. -/
theorem append_text_at {w : World} {B ty : Nat} {i : TypeInfo} (hi : Tryz.prog.info? 5 = some i) (hz : i.zero = some (.int .u8 0)) (hsize : i.size = 1) (hby : i.bytes = 1) {v : Value} {n : Nat} {xs : List Value} (hown : w.ownsRow B 5 1 v n xs) (hn : 0 < n) (s : ByteArray) (h63 : n + s.size ≤ 140737488355328) (hbase : B ≤ w.heap.size) :
    ∃ v' w', (Builtin.append_ #[77, 9] ty #[v, .string s]).run Tryz.prog w = .ok v' w' ∧ w'.ownsRow B 5 1 v' (n + s.size) (xs ++ Lib.strCells s) ∧ w.grownBy w' v.ownBlock ∧ (v'.ownBlock = v.ownBlock ∨ v'.ownBlock = some w.heap.size) := by
  obtain ⟨v', w', hr, h1, h2, _⟩ := Lib.run_append_own_string (P := Tryz.prog) w B 77 9 ty 5 i Tryz.underlying77 Tryz.underlying9 hi hz hsize hby v n xs hown s (by unfold maxLen; omega) h63 hbase
  refine ⟨v', w', hr, h1, h2, ?_⟩
  rcases hown.2 with ⟨rfl, rfl⟩ | ⟨g, cap, cur, rfl, hbg, hg, hnc, hcm, hcs, htake⟩
  · omega
  · by_cases hroom : n + s.size ≤ cap
    · have hr2 := Lib.run_append_room_string (P := Tryz.prog) w 77 9 ty 5 i Tryz.underlying77 Tryz.underlying9 hi hsize g n cap cur hg s hroom (by omega)
      rw [hr] at hr2
      simp only [Result.ok.injEq] at hr2
      exact .inl (by rw [hr2.1]; rfl)
    · have holds : ∀ j u, xs[j]? = some u → w.cell? ((⟨g, 0, none⟩ : Addr).add j) = some u := hown.cells (g := g) rfl
      have hr2 := Lib.run_append_grow_string (P := Tryz.prog) w 77 9 ty 5 i (.int .u8 0) Tryz.underlying77 Tryz.underlying9 hi hz ⟨g, 0, none⟩ n cap xs (by rw [hsize]; simpa using hown.1) holds s (by omega) (by omega) (by rw [hby]; exact growslice_fits (by omega) (by omega))
      rw [hr] at hr2
      simp only [Result.ok.injEq] at hr2
      exact .inr (by rw [hr2.1]; rfl)
theorem wpList_append_text {w : World} {ops : Array Oper} {rest : List Oper} {o : Oper} {a : Act} {Q : Exit → Act → World → Prop} (hgd : o.guard = none) (sl x : Operand)
    (ho : o.op = .call { callee := .builtin .append, args := #[sl, x], argTypes := #[77, 9] }) (B : Nat)
    (v : Value) (n : Nat) (xs : List Value) (hs : a.eval sl = v) (hown : w.ownsRow B 5 1 v n xs) (hn : 0 < n) (s : ByteArray) (hx : a.eval x = .string s)
    (h63 : n + s.size ≤ 140737488355328) (hbase : B ≤ w.heap.size)
    (h : ∀ v' w', w'.ownsRow B 5 1 v' (n + s.size) (xs ++ Lib.strCells s) → w.grownBy w' v.ownBlock → (v'.ownBlock = v.ownBlock ∨ v'.ownBlock = some w.heap.size) → wpList Tryz.prog ops Q rest (a.put o.dst v') w') : wpList Tryz.prog ops Q (o :: rest) a w := by
  obtain ⟨i0, hi0, hz0, hz1, hz2⟩ := info5
  refine wpList_plain hgd fun K hK => ?_
  obtain ⟨v', w', hr, h2, h3, h4⟩ := append_text_at (ty := o.type) hi0 hz0 hz1 hz2 hown hn s h63 hbase
  unfold Oper.wp execOp
  simp only [ho, resolve, invoke, builtin, Sem.run_bind, Sem.run_pure, Result.andThen_ok, List.map_toArray, List.map_cons, List.map_nil, hs, hx, hr]
  exact hK _ _ (h v' w' h2 h3 h4)

end Go.Proofs.YtjggdecjnnpjaaaGreat

/- A batch's body, written. -/
namespace Go.Proofs.YtjggdecjnnpjaaaGreat
open Go.RowKit Go.Maps
set_option linter.unusedSimpArgs false
set_option linter.unusedVariables false
set_option maxRecDepth 100000

theorem cell_blk {w : World} {q : Nat} {cs : Array Value} {T : TypeId} {mk : Nat × Nat} (h : w.heap[q]? = some (.cells cs T mk)) (j : Nat) (u : Value) (hu : cs[j]? = some u) : w.cell? ⟨q, j, none⟩ = some u := by
  show (match w.heap[q]? with | some (.cells c _ _) => c[j]? | _ => none) = _
  rw [h]
  exact hu
theorem Row.lt {w : World} {B : Nat} {v : Value} {l : List UInt8} (h : Row w B v l) : ∀ k, v.ownBlock = some k → k < w.heap.size := fun k hk => (World.ownsRow.lt h k hk).2
theorem kept_box {wr w1 : World} {B : Nat} {v v1 : Value} {m : List UInt8} {cs : Array Value} {T : TypeId} (hr : Row wr B v m) (g : Grow (wr.alloc (.cells cs T)) w1 v v1) :
    w1.heap[wr.heap.size]? = some (.cells cs T) ∧ v1.ownBlock ≠ some wr.heap.size ∧ wr.heap.size < w1.heap.size := by
  have h := g.block (q := wr.heap.size) (by simp) (fun e => by have := hr.lt _ e; omega)
  exact ⟨h.1.trans (heap_alloc_new wr _), h.2⟩

/-- Where batchBody stands behind k records. -/
structure BodyAt (w : World) (B : Nat) (b : Bat) (k : Nat) (v : Value) (wr : World) : Prop where
  row : Row wr B v (intsL (numsOf b) ++ intL b.recs.length ++ recsL (b.recs.take k))
  below : Below w.heap.size w wr
  base : w.heap.size ≤ B
  size : B ≤ wr.heap.size

theorem recs_take (rs : List Rec) (k : Nat) (h : k < rs.length) : recsL (rs.take (k + 1)) = recsL (rs.take k) ++ recL rs[k] := by
  rw [List.take_succ_eq_append_getElem h, recsL_snoc]

theorem body_short (b : Bat) (hn : b.recs.length ≤ 64) (ht : ∀ r ∈ b.recs, r.key.length ≤ 1000 ∧ r.val.length ≤ 1000) (k : Nat) : (intsL (numsOf b) ++ intL b.recs.length ++ recsL (b.recs.take k)).length ≤ 1000000 := by
  have h1 := intsL_length (numsOf b)
  have h2 := intL_length (b.recs.length : Int)
  have h3 := recsL_length 1000 (b.recs.take k) (fun r hr => ht r (List.mem_of_mem_take hr))
  have h4 : (b.recs.take k).length ≤ 64 := by simp; omega
  have h5 : (numsOf b).length = 5 := rfl
  have h6 : (b.recs.take k).length * (30 + 2 * 1000) ≤ 64 * (30 + 2 * 1000) := Nat.mul_le_mul_right _ h4
  simp only [List.length_append]
  omega

theorem BodyAt.next {w : World} {B : Nat} {b : Bat} {k : Nat} {v : Value} {wr : World} (h : BodyAt w B b k v wr) (hk : k < b.recs.length) {O : Obj} {w1 w2 w3 : World} {v3 : Value} {M : List UInt8}
    (hM : M = intsL (numsOf b) ++ intL b.recs.length ++ recsL (b.recs.take k)) (r3 : Row w3 B v3 (M ++ intL b.recs[k].time ++ textL b.recs[k].key ++ textL b.recs[k].val)) (b1 : Below B (wr.alloc O) w1) (b2 : Below B w1 w2) (b3 : Below B w2 w3) : BodyAt w B b (k + 1) v3 w3 := by
  have hb := h.base
  have hs := h.size
  refine ⟨?_, ?_, hb, ?_⟩
  · rw [recs_take _ k hk]
    have e : intsL (numsOf b) ++ intL b.recs.length ++ (recsL (b.recs.take k) ++ recL b.recs[k]) = M ++ intL b.recs[k].time ++ textL b.recs[k].key ++ textL b.recs[k].val := by
      rw [hM]; simp [recL]
    rw [e]; exact r3
  · exact (((h.below.alloc (Nat.le_trans hb hs) O).trans (b1.mono hb)).trans (b2.mono hb)).trans (b3.mono hb)
  · have h1 := b1.size; have h2 := b2.size; have h3 := b3.size
    simp at h1; omega

end Go.Proofs.YtjggdecjnnpjaaaGreat

/- Right and Batch. -/
namespace Go.Proofs.YtjggdecjnnpjaaaGreat
open Go.RowKit Go.Maps
set_option linter.unusedSimpArgs false
set_option linter.unusedVariables false
set_option maxRecDepth 100000

/-- A box of the call's own that is as it was laid. -/
structure Boxed (w W : World) (O : Obj) : Prop where
  below : Below w.heap.size w W
  box : W.heap[w.heap.size]? = some O
theorem Boxed.lt {w W : World} {O : Obj} (h : Boxed w W O) : w.heap.size < W.heap.size := by
  rcases Nat.lt_or_ge w.heap.size W.heap.size with h1 | h1
  · exact h1
  · have := h.box; rw [Array.getElem?_eq_none h1] at this; cases this
theorem Boxed.laid (w : World) (O : Obj) : Boxed w (w.alloc O) O := ⟨(Below.refl _ _).alloc (Nat.le_refl _) _, heap_alloc_new w O⟩
theorem Boxed.next {w W W' : World} {O : Obj} (h : Boxed w W O) (hb : Below W.heap.size W W') : Boxed w W' O := ⟨h.below.trans (hb.mono (Nat.le_of_lt h.lt)), (hb.block _ h.lt).trans h.box⟩
theorem six {w W : World} {a0 a1 a2 a3 a4 a5 : Value} {T : TypeId} (h : Boxed w W (.cells #[a0, a1, a2, a3, a4, a5] T)) :
    W.cell? ⟨w.heap.size, 0, none⟩ = some a0 ∧ W.cell? ⟨w.heap.size, 1, none⟩ = some a1 ∧ W.cell? ⟨w.heap.size, 2, none⟩ = some a2 ∧ W.cell? ⟨w.heap.size, 3, none⟩ = some a3 ∧ W.cell? ⟨w.heap.size, 4, none⟩ = some a4 ∧ W.cell? ⟨w.heap.size, 5, none⟩ = some a5 :=
  ⟨cell_blk h.box 0 a0 rfl, cell_blk h.box 1 a1 rfl, cell_blk h.box 2 a2 rfl, cell_blk h.box 3 a3 rfl, cell_blk h.box 4 a4 rfl, cell_blk h.box 5 a5 rfl⟩

theorem long_no {l : List Rec} (h : longB l = false) : ∀ r ∈ l, r.key.length ≤ 1000 ∧ r.val.length ≤ 1000 := by
  intro r hr
  simp only [longB, List.any_eq_false, Bool.or_eq_true, decide_eq_true_eq] at h
  have c := h r hr
  omega

end Go.Proofs.YtjggdecjnnpjaaaGreat

/- Batch of wire. -/
namespace Go.Proofs.YtjggdecjnnpjaaaGreat
open Go.RowKit Go.Maps
set_option linter.unusedSimpArgs false
set_option linter.unusedVariables false
set_option maxRecDepth 100000

theorem strOf_append (l m : List UInt8) : strOf l ++ strOf m = strOf (l ++ m) := by
  apply ByteArray.ext
  simp [strOf]

theorem right_facts {b : Bat} (h : rightL b = 0) : b.recs.length ≤ 64 ∧ (∀ r ∈ b.recs, r.key.length ≤ 1000 ∧ r.val.length ≤ 1000) ∧ (bodyL b).length ≤ 4088 := by
  obtain ⟨_, _, _, h4, h5, _, h7⟩ := rightL_ok h
  exact ⟨h4, long_no h5, h7⟩

end Go.Proofs.YtjggdecjnnpjaaaGreat

