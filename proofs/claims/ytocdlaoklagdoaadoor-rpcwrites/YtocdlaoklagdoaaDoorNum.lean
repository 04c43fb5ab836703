/- Ints by sevens, on lists of bytes: written, read, and read as they were written. -/
import Derived.Laws.BitsAllLaws
namespace Go.Proofs.YtocdlaoklagdoaaDoor
set_option linter.unusedSimpArgs false
set_option linter.unusedVariables false

def zz (n : Int) : Nat := if n < 0 then 2 * (-(n + 1)).toNat + 1 else 2 * n.toNat
def unzz (z : Nat) : Int := if z % 2 = 1 then -((z / 2 : Nat) : Int) - 1 else ((z / 2 : Nat) : Int)

theorem unzz_zz (n : Int) : unzz (zz n) = n := by unfold unzz zz; split <;> split <;> omega
theorem zz_lt (n : Int) (h1 : -9223372036854775808 ≤ n) (h2 : n ≤ 9223372036854775807) : zz n < 18446744073709551616 := by unfold zz; split <;> omega
theorem zz_inj {n m : Int} (h : zz n = zz m) : n = m := by rw [← unzz_zz n, ← unzz_zz m, h]
theorem unzz_range (z : Nat) (h : z < 18446744073709551616) : -9223372036854775808 ≤ unzz z ∧ unzz z ≤ 9223372036854775807 := by unfold unzz; split <;> omega

/-- A number's digits to the base 128, the lowest first; f more than one at most. -/
def digs : Nat → Nat → List UInt8
  | 0, z => [UInt8.ofNat z]
  | f + 1, z => if z < 128 then [UInt8.ofNat z] else UInt8.ofNat (z % 128 + 128) :: digs f (z / 128)

def intL (n : Int) : List UInt8 := digs 9 (zz n)

theorem digs_length : ∀ f z, 1 ≤ (digs f z).length ∧ (digs f z).length ≤ f + 1
  | 0, z => by simp [digs]
  | f + 1, z => by
    have := digs_length f (z / 128)
    unfold digs
    split
    · simp
    · simp; omega
theorem intL_length (n : Int) : 1 ≤ (intL n).length ∧ (intL n).length ≤ 10 := digs_length 9 _

/-- The bytes at the front as digits: the number, how many, the error. -/
def rdZ : Nat → Nat → Nat → List UInt8 → Nat × Nat × Int
  | 0, _, _, _ => (0, 0, 4)
  | _ + 1, _, _, [] => (0, 0, 5)
  | f + 1, i, z, d :: r =>
    if (i = 9 ∧ 1 < d.toNat) ∨ (0 < i ∧ d.toNat = 0) then (0, 0, 4)
    else if d.toNat < 128 then (z + d.toNat * 128 ^ i, i + 1, 0)
    else rdZ f (i + 1) (z + d.toNat % 128 * 128 ^ i) r

def okI (r : Nat × Nat × Int) : Int × Nat × Int := if r.2.2 = 0 then (unzz r.1, r.2.1, 0) else (0, 0, r.2.2)
def readL (l : List UInt8) : Int × Nat × Int := okI (rdZ 10 0 0 l)

theorem toNat_u8 (n : Nat) (h : n < 256) : (UInt8.ofNat n).toNat = n := by simp; omega

theorem pow_step (f i : Nat) (h : i + (f + 1) = 9) : 128 ^ (f + 1) = 128 * 128 ^ f := by rw [Nat.pow_succ, Nat.mul_comm]

theorem rdZ_digs : ∀ (f i z0 z : Nat) (more : List UInt8), i + f = 9 → z < 2 * 128 ^ f → (i = 0 ∨ 0 < z) →
    rdZ (f + 1) i z0 (digs f z ++ more) = (z0 + z * 128 ^ i, i + (digs f z).length, 0)
  | 0, i, z0, z, more, hi, hz, h0 => by
    have hz' : z < 2 := by simpa using hz
    have e := toNat_u8 z (by omega)
    have hi' : i = 9 := by omega
    have hc : ¬ ((i = 9 ∧ 1 < z) ∨ (0 < i ∧ z = 0)) := by omega
    simp only [digs, List.cons_append, List.nil_append, rdZ, e, if_neg hc, if_pos (show z < 128 by omega), List.length_singleton]
  | f + 1, i, z0, z, more, hi, hz, h0 => by
    rw [pow_step f i hi] at hz
    by_cases hz1 : z < 128
    · have e := toNat_u8 z (by omega)
      have hc : ¬ ((i = 9 ∧ 1 < z) ∨ (0 < i ∧ z = 0)) := by omega
      simp only [digs, if_pos hz1, List.cons_append, List.nil_append, rdZ, e, if_neg hc, List.length_singleton]
    · have e := toNat_u8 (z % 128 + 128) (by omega)
      have hc : ¬ ((i = 9 ∧ 1 < z % 128 + 128) ∨ (0 < i ∧ z % 128 + 128 = 0)) := by omega
      have ih := rdZ_digs f (i + 1) (z0 + (z % 128 + 128) % 128 * 128 ^ i) (z / 128) more (by omega) (by omega) (by omega)
      simp only [digs, if_neg hz1, List.cons_append]
      rw [rdZ, e, if_neg hc, if_neg (by omega), ih]
      have e1 : (z % 128 + 128) % 128 = z % 128 := by omega
      have e2 : z * 128 ^ i = z % 128 * 128 ^ i + z / 128 * 128 ^ (i + 1) := by
        have h3 : z = z % 128 + 128 * (z / 128) := by omega
        have h4 : z * 128 ^ i = (z % 128 + 128 * (z / 128)) * 128 ^ i := by rw [← h3]
        rw [h4, Nat.add_mul, Nat.pow_succ, Nat.mul_comm 128 (z / 128), Nat.mul_assoc, Nat.mul_comm 128 (128 ^ i)]
      rw [e1, e2]
      simp only [List.length_cons, Prod.mk.injEq, and_true]
      omega

theorem readL_intL (n : Int) (more : List UInt8) (h1 : -9223372036854775808 ≤ n) (h2 : n ≤ 9223372036854775807) :
    readL (intL n ++ more) = (n, (intL n).length, 0) := by
  have hz := zz_lt n h1 h2
  have := rdZ_digs 9 0 0 (zz n) more rfl (by show zz n < 18446744073709551616; exact hz) (.inl rfl)
  unfold readL intL
  rw [this]
  simp [okI, unzz_zz]

theorem rdZ_range : ∀ (f i z : Nat) (l : List UInt8), i + f = 10 → z < 128 ^ i → (rdZ f i z l).1 < 18446744073709551616 ∧ (rdZ f i z l).2.1 ≤ i + l.length ∧ (rdZ f i z l).2.1 ≤ 10
  | 0, _, _, _, _, _ => by simp [rdZ]
  | _ + 1, _, _, [], _, _ => by simp [rdZ]
  | f + 1, i, z, d :: r, hi, hz => by
    have hp : 128 ^ i ≤ 128 ^ 9 := Nat.pow_le_pow_right (by omega) (by omega)
    have h9 : (128 : Nat) ^ 9 = 9223372036854775808 := by decide
    unfold rdZ
    split
    · simp
    · rename_i hc
      split
      · rename_i hd
        refine ⟨?_, by simp, by simp only; omega⟩
        show z + d.toNat * 128 ^ i < _
        by_cases h : i = 9
        · have hd1 : d.toNat ≤ 1 := by omega
          have : d.toNat * 128 ^ i ≤ 1 * 128 ^ i := Nat.mul_le_mul_right _ hd1
          omega
        · have hp8 : 128 ^ i ≤ 128 ^ 8 := Nat.pow_le_pow_right (by omega) (by omega)
          have h8 : (128 : Nat) ^ 8 = 72057594037927936 := by decide
          have : d.toNat * 128 ^ i ≤ 127 * 128 ^ i := Nat.mul_le_mul_right _ (by omega)
          omega
      · have e : 128 ^ (i + 1) = 128 * 128 ^ i := by rw [Nat.pow_succ, Nat.mul_comm]
        have h127 : d.toNat % 128 * 128 ^ i ≤ 127 * 128 ^ i := Nat.mul_le_mul_right _ (by omega)
        have ih := rdZ_range f (i + 1) (z + d.toNat % 128 * 128 ^ i) r (by omega) (by omega)
        refine ⟨ih.1, ?_, ih.2.2⟩
        have := ih.2.1
        simp only [List.length_cons]
        omega

theorem readL_range (l : List UInt8) : (-9223372036854775808 ≤ (readL l).1 ∧ (readL l).1 ≤ 9223372036854775807) ∧ (readL l).2.1 ≤ l.length ∧ (readL l).2.1 ≤ 10 := by
  have h := rdZ_range 10 0 0 l rfl (by simp)
  unfold readL okI
  split
  · exact ⟨unzz_range _ h.1, by have := h.2.1; simp only; omega, h.2.2⟩
  · exact ⟨⟨by simp, by simp⟩, by simp, by simp⟩

theorem rdZ_err : ∀ (f i z : Nat) (l : List UInt8), (rdZ f i z l).2.2 = 0 ∨ (rdZ f i z l).2.2 = 4 ∨ (rdZ f i z l).2.2 = 5
  | 0, _, _, _ => by simp [rdZ]
  | _ + 1, _, _, [] => by simp [rdZ]
  | f + 1, i, z, d :: r => by
    have ih := rdZ_err f (i + 1) (z + d.toNat % 128 * 128 ^ i) r
    unfold rdZ
    split
    · simp
    · split
      · simp
      · exact ih
theorem readL_err (l : List UInt8) : (readL l).2.2 = 0 ∨ (readL l).2.2 = 4 ∨ (readL l).2.2 = 5 := by
  have h := rdZ_err 10 0 0 l
  unfold readL okI
  split
  · simp
  · exact h

theorem intL_inj {n m : Int} (hn : -9223372036854775808 ≤ n) (hn' : n ≤ 9223372036854775807) (hm : -9223372036854775808 ≤ m) (hm' : m ≤ 9223372036854775807) (h : intL n = intL m) : n = m := by
  have a := readL_intL n [] hn hn'
  have b := readL_intL m [] hm hm'
  rw [h, b] at a
  simpa using congrArg (·.1) a.symm
end Go.Proofs.YtocdlaoklagdoaaDoor
