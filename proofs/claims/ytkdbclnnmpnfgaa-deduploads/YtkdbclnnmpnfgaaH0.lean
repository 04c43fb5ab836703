/- CRC-32C on lists of bytes: its bounds, and that one byte that is another one makes it another one. -/
import Derived.Laws.BitsAllLaws
import Derived.Test.YtkdbclnnmpnfgaaRows
import Derived.WalkKit
import Derived.WalkSpells
import Derived.WalkLawsBesides
import Derived.Laws.BitsAll
namespace Go.Proofs.Ytkdbclnnmpnfgaa
set_option linter.unusedSimpArgs false
set_option linter.unusedVariables false

def crcBit (c : Nat) : Nat := if c % 2 = 1 then (c / 2) ^^^ 2197175160 else c / 2
def crcBits : Nat → Nat → Nat
  | 0, c => c
  | k + 1, c => crcBit (crcBits k c)
def crcByte (c : Nat) (b : UInt8) : Nat := crcBits 8 (c ^^^ b.toNat)
def crcRun (c : Nat) (l : List UInt8) : Nat := l.foldl crcByte c
def crcL (l : List UInt8) : Nat := crcRun 4294967295 l ^^^ 4294967295

theorem xor_lt (a b : Nat) (ha : a < 4294967296) (hb : b < 4294967296) : a ^^^ b < 4294967296 := Nat.xor_lt_two_pow (n := 32) ha hb
theorem u8_lt (b : UInt8) : b.toNat < 4294967296 := by have := b.toNat_lt; omega

theorem crcBit_lt (c : Nat) (h : c < 4294967296) : crcBit c < 4294967296 := by
  unfold crcBit
  split
  · exact xor_lt _ _ (by omega) (by omega)
  · omega
theorem crcBits_lt (c : Nat) (h : c < 4294967296) : ∀ k, crcBits k c < 4294967296
  | 0 => h
  | k + 1 => crcBit_lt _ (crcBits_lt c h k)
theorem crcByte_lt (c : Nat) (b : UInt8) (h : c < 4294967296) : crcByte c b < 4294967296 := crcBits_lt _ (xor_lt _ _ h (u8_lt b)) 8
theorem crcRun_lt : ∀ (l : List UInt8) (c : Nat), c < 4294967296 → crcRun c l < 4294967296
  | [], c, h => h
  | b :: r, c, h => crcRun_lt r (crcByte c b) (crcByte_lt c b h)
theorem crcL_lt (l : List UInt8) : crcL l < 4294967296 := xor_lt _ _ (crcRun_lt l _ (by omega)) (by omega)

theorem crcRun_snoc (c : Nat) (l : List UInt8) (b : UInt8) : crcRun c (l ++ [b]) = crcByte (crcRun c l) b := by simp [crcRun]
theorem crcRun_append (c : Nat) (l m : List UInt8) : crcRun c (l ++ m) = crcRun (crcRun c l) m := by simp [crcRun]

theorem xor_cancel {a b c : Nat} (h : a ^^^ c = b ^^^ c) : a = b := by
  have h1 : (a ^^^ c) ^^^ c = (b ^^^ c) ^^^ c := by rw [h]
  rwa [Nat.xor_assoc, Nat.xor_self, Nat.xor_zero, Nat.xor_assoc, Nat.xor_self, Nat.xor_zero] at h1
theorem xor_cancel_left {a b c : Nat} (h : c ^^^ a = c ^^^ b) : a = b := by
  rw [Nat.xor_comm c a, Nat.xor_comm c b] at h
  exact xor_cancel h

theorem top_odd (c : Nat) (h : c < 4294967296) : ((c / 2) ^^^ 2197175160).testBit 31 = true := by
  have h1 : (c / 2).testBit 31 = false := Nat.testBit_lt_two_pow (by omega)
  have h2 : (2197175160 : Nat).testBit 31 = true := by decide
  rw [Nat.testBit_xor, h1, h2]; rfl
theorem top_even (c : Nat) (h : c < 4294967296) : (c / 2).testBit 31 = false := Nat.testBit_lt_two_pow (by omega)

theorem crcBit_inj (c d : Nat) (hc : c < 4294967296) (hd : d < 4294967296) (h : crcBit c = crcBit d) : c = d := by
  unfold crcBit at h
  by_cases h1 : c % 2 = 1
  · rw [if_pos h1] at h
    by_cases h2 : d % 2 = 1
    · rw [if_pos h2] at h
      have := xor_cancel h
      omega
    · rw [if_neg h2] at h
      have e1 := top_odd c hc
      rw [h, top_even d hd] at e1
      cases e1
  · rw [if_neg h1] at h
    by_cases h2 : d % 2 = 1
    · rw [if_pos h2] at h
      have e1 := top_odd d hd
      rw [← h, top_even c hc] at e1
      cases e1
    · rw [if_neg h2] at h
      omega
theorem crcBits_inj (c d : Nat) (hc : c < 4294967296) (hd : d < 4294967296) : ∀ k, crcBits k c = crcBits k d → c = d
  | 0, h => h
  | k + 1, h => crcBits_inj c d hc hd k (crcBit_inj _ _ (crcBits_lt c hc k) (crcBits_lt d hd k) h)
theorem crcByte_inj (c d : Nat) (b : UInt8) (hc : c < 4294967296) (hd : d < 4294967296) (h : crcByte c b = crcByte d b) : c = d :=
  xor_cancel (crcBits_inj _ _ (xor_lt _ _ hc (u8_lt b)) (xor_lt _ _ hd (u8_lt b)) 8 h)
theorem crcByte_byte (c : Nat) (a b : UInt8) (hc : c < 4294967296) (h : crcByte c a = crcByte c b) : a = b :=
  UInt8.toNat_inj.1 (xor_cancel_left (crcBits_inj _ _ (xor_lt _ _ hc (u8_lt a)) (xor_lt _ _ hc (u8_lt b)) 8 h))
theorem crcRun_inj : ∀ (l : List UInt8) (c d : Nat), c < 4294967296 → d < 4294967296 → crcRun c l = crcRun d l → c = d
  | [], c, d, _, _, h => h
  | b :: r, c, d, hc, hd, h => crcByte_inj c d b hc hd (crcRun_inj r _ _ (crcByte_lt c b hc) (crcByte_lt d b hd) h)

/-- One byte that is another one: another checksum. -/
theorem crcL_other (p s : List UInt8) (a b : UInt8) (h : crcL (p ++ a :: s) = crcL (p ++ b :: s)) : a = b := by
  have h1 := xor_cancel h
  rw [crcRun_append, crcRun_append] at h1
  have hp := crcRun_lt p 4294967295 (by omega)
  exact crcByte_byte _ a b hp (crcRun_inj s _ _ (crcByte_lt _ a hp) (crcByte_lt _ b hp) h1)
theorem crcL_set (l : List UInt8) (k : Nat) (x : UInt8) (hk : k < l.length) (h : crcL (l.set k x) = crcL l) : x = l[k] := by
  have e1 : l = l.take k ++ l[k] :: l.drop (k + 1) := by rw [← List.drop_eq_getElem_cons hk, List.take_append_drop]
  have e2 : l.set k x = l.take k ++ x :: l.drop (k + 1) := by rw [List.set_eq_take_append_cons_drop, if_pos hk]
  have e3 : crcL l = crcL (l.take k ++ l[k] :: l.drop (k + 1)) := congrArg crcL e1
  rw [e2, e3] at h
  exact crcL_other _ _ _ _ h
end Go.Proofs.Ytkdbclnnmpnfgaa

/- Ints by sevens, on lists of bytes: written, read, and read as they were written. -/
namespace Go.Proofs.Ytkdbclnnmpnfgaa
set_option linter.unusedSimpArgs false
set_option linter.unusedVariables false

def zz (n : Int) : Nat := if n < 0 then 2 * (-(n + 1)).toNat + 1 else 2 * n.toNat
def unzz (z : Nat) : Int := if z % 2 = 1 then -((z / 2 : Nat) : Int) - 1 else ((z / 2 : Nat) : Int)

theorem unzz_zz (n : Int) : unzz (zz n) = n := by unfold unzz zz; split <;> split <;> omega
theorem zz_lt (n : Int) (h1 : -9223372036854775808 ≤ n) (h2 : n ≤ 9223372036854775807) : zz n < 18446744073709551616 := by unfold zz; split <;> omega
theorem zz_inj {n m : Int} (h : zz n = zz m) : n = m := by rw [← unzz_zz n, ← unzz_zz m, h]
theorem unzz_range (z : Nat) (h : z < 18446744073709551616) : -9223372036854775808 ≤ unzz z ∧ unzz z ≤ 9223372036854775807 := by unfold unzz; split <;> omega

/-- A number's digits to the base 128, the lowest first; f more than one at most. -/
def digs : Nat → Nat → List UInt8
  | 0, z => [UInt8.ofNat z]
  | f + 1, z => if z < 128 then [UInt8.ofNat z] else UInt8.ofNat (z % 128 + 128) :: digs f (z / 128)

def intL (n : Int) : List UInt8 := digs 9 (zz n)

theorem digs_length : ∀ f z, 1 ≤ (digs f z).length ∧ (digs f z).length ≤ f + 1
  | 0, z => by simp [digs]
  | f + 1, z => by
    have := digs_length f (z / 128)
    unfold digs
    split
    · simp
    · simp; omega
theorem intL_length (n : Int) : 1 ≤ (intL n).length ∧ (intL n).length ≤ 10 := digs_length 9 _

/-- The bytes at the front as digits: the number, how many, the error. -/
def rdZ : Nat → Nat → Nat → List UInt8 → Nat × Nat × Int
  | 0, _, _, _ => (0, 0, 4)
  | _ + 1, _, _, [] => (0, 0, 5)
  | f + 1, i, z, d :: r =>
    if (i = 9 ∧ 1 < d.toNat) ∨ (0 < i ∧ d.toNat = 0) then (0, 0, 4)
    else if d.toNat < 128 then (z + d.toNat * 128 ^ i, i + 1, 0)
    else rdZ f (i + 1) (z + d.toNat % 128 * 128 ^ i) r

def okI (r : Nat × Nat × Int) : Int × Nat × Int := if r.2.2 = 0 then (unzz r.1, r.2.1, 0) else (0, 0, r.2.2)
def readL (l : List UInt8) : Int × Nat × Int := okI (rdZ 10 0 0 l)

theorem toNat_u8 (n : Nat) (h : n < 256) : (UInt8.ofNat n).toNat = n := by simp; omega

theorem pow_step (f i : Nat) (h : i + (f + 1) = 9) : 128 ^ (f + 1) = 128 * 128 ^ f := by rw [Nat.pow_succ, Nat.mul_comm]

theorem rdZ_digs : ∀ (f i z0 z : Nat) (more : List UInt8), i + f = 9 → z < 2 * 128 ^ f → (i = 0 ∨ 0 < z) →
    rdZ (f + 1) i z0 (digs f z ++ more) = (z0 + z * 128 ^ i, i + (digs f z).length, 0)
  | 0, i, z0, z, more, hi, hz, h0 => by
    have hz' : z < 2 := by simpa using hz
    have e := toNat_u8 z (by omega)
    have hi' : i = 9 := by omega
    have hc : ¬ ((i = 9 ∧ 1 < z) ∨ (0 < i ∧ z = 0)) := by omega
    simp only [digs, List.cons_append, List.nil_append, rdZ, e, if_neg hc, if_pos (show z < 128 by omega), List.length_singleton]
  | f + 1, i, z0, z, more, hi, hz, h0 => by
    rw [pow_step f i hi] at hz
    by_cases hz1 : z < 128
    · have e := toNat_u8 z (by omega)
      have hc : ¬ ((i = 9 ∧ 1 < z) ∨ (0 < i ∧ z = 0)) := by omega
      simp only [digs, if_pos hz1, List.cons_append, List.nil_append, rdZ, e, if_neg hc, List.length_singleton]
    · have e := toNat_u8 (z % 128 + 128) (by omega)
      have hc : ¬ ((i = 9 ∧ 1 < z % 128 + 128) ∨ (0 < i ∧ z % 128 + 128 = 0)) := by omega
      have ih := rdZ_digs f (i + 1) (z0 + (z % 128 + 128) % 128 * 128 ^ i) (z / 128) more (by omega) (by omega) (by omega)
      simp only [digs, if_neg hz1, List.cons_append]
      rw [rdZ, e, if_neg hc, if_neg (by omega), ih]
      have e1 : (z % 128 + 128) % 128 = z % 128 := by omega
      have e2 : z * 128 ^ i = z % 128 * 128 ^ i + z / 128 * 128 ^ (i + 1) := by
        have h3 : z = z % 128 + 128 * (z / 128) := by omega
        have h4 : z * 128 ^ i = (z % 128 + 128 * (z / 128)) * 128 ^ i := by rw [← h3]
        rw [h4, Nat.add_mul, Nat.pow_succ, Nat.mul_comm 128 (z / 128), Nat.mul_assoc, Nat.mul_comm 128 (128 ^ i)]
      rw [e1, e2]
      simp only [List.length_cons, Prod.mk.injEq, and_true]
      omega

theorem readL_intL (n : Int) (more : List UInt8) (h1 : -9223372036854775808 ≤ n) (h2 : n ≤ 9223372036854775807) :
    readL (intL n ++ more) = (n, (intL n).length, 0) := by
  have hz := zz_lt n h1 h2
  have := rdZ_digs 9 0 0 (zz n) more rfl (by show zz n < 18446744073709551616; exact hz) (.inl rfl)
  unfold readL intL
  rw [this]
  simp [okI, unzz_zz]

theorem rdZ_range : ∀ (f i z : Nat) (l : List UInt8), i + f = 10 → z < 128 ^ i → (rdZ f i z l).1 < 18446744073709551616 ∧ (rdZ f i z l).2.1 ≤ i + l.length ∧ (rdZ f i z l).2.1 ≤ 10
  | 0, _, _, _, _, _ => by simp [rdZ]
  | _ + 1, _, _, [], _, _ => by simp [rdZ]
  | f + 1, i, z, d :: r, hi, hz => by
    have hp : 128 ^ i ≤ 128 ^ 9 := Nat.pow_le_pow_right (by omega) (by omega)
    have h9 : (128 : Nat) ^ 9 = 9223372036854775808 := by decide
    unfold rdZ
    split
    · simp
    · rename_i hc
      split
      · rename_i hd
        refine ⟨?_, by simp, by simp only; omega⟩
        show z + d.toNat * 128 ^ i < _
        by_cases h : i = 9
        · have hd1 : d.toNat ≤ 1 := by omega
          have : d.toNat * 128 ^ i ≤ 1 * 128 ^ i := Nat.mul_le_mul_right _ hd1
          omega
        · have hp8 : 128 ^ i ≤ 128 ^ 8 := Nat.pow_le_pow_right (by omega) (by omega)
          have h8 : (128 : Nat) ^ 8 = 72057594037927936 := by decide
          have : d.toNat * 128 ^ i ≤ 127 * 128 ^ i := Nat.mul_le_mul_right _ (by omega)
          omega
      · have e : 128 ^ (i + 1) = 128 * 128 ^ i := by rw [Nat.pow_succ, Nat.mul_comm]
        have h127 : d.toNat % 128 * 128 ^ i ≤ 127 * 128 ^ i := Nat.mul_le_mul_right _ (by omega)
        have ih := rdZ_range f (i + 1) (z + d.toNat % 128 * 128 ^ i) r (by omega) (by omega)
        refine ⟨ih.1, ?_, ih.2.2⟩
        have := ih.2.1
        simp only [List.length_cons]
        omega

theorem readL_range (l : List UInt8) : (-9223372036854775808 ≤ (readL l).1 ∧ (readL l).1 ≤ 9223372036854775807) ∧ (readL l).2.1 ≤ l.length ∧ (readL l).2.1 ≤ 10 := by
  have h := rdZ_range 10 0 0 l rfl (by simp)
  unfold readL okI
  split
  · exact ⟨unzz_range _ h.1, by have := h.2.1; simp only; omega, h.2.2⟩
  · exact ⟨⟨by simp, by simp⟩, by simp, by simp⟩

theorem rdZ_err : ∀ (f i z : Nat) (l : List UInt8), (rdZ f i z l).2.2 = 0 ∨ (rdZ f i z l).2.2 = 4 ∨ (rdZ f i z l).2.2 = 5
  | 0, _, _, _ => by simp [rdZ]
  | _ + 1, _, _, [] => by simp [rdZ]
  | f + 1, i, z, d :: r => by
    have ih := rdZ_err f (i + 1) (z + d.toNat % 128 * 128 ^ i) r
    unfold rdZ
    split
    · simp
    · split
      · simp
      · exact ih
theorem readL_err (l : List UInt8) : (readL l).2.2 = 0 ∨ (readL l).2.2 = 4 ∨ (readL l).2.2 = 5 := by
  have h := rdZ_err 10 0 0 l
  unfold readL okI
  split
  · simp
  · exact h

theorem intL_inj {n m : Int} (hn : -9223372036854775808 ≤ n) (hn' : n ≤ 9223372036854775807) (hm : -9223372036854775808 ≤ m) (hm' : m ≤ 9223372036854775807) (h : intL n = intL m) : n = m := by
  have a := readL_intL n [] hn hn'
  have b := readL_intL m [] hm hm'
  rw [h, b] at a
  simpa using congrArg (·.1) a.symm
end Go.Proofs.Ytkdbclnnmpnfgaa

/- Batches and records of metadata as bytes, on lists: what may be, what is written, what is read. -/
namespace Go.Proofs.Ytkdbclnnmpnfgaa
set_option linter.unusedSimpArgs false
set_option linter.unusedVariables false

structure Rec where
  key : List UInt8
  val : List UInt8
  time : Int

structure Bat where
  base : Int
  epoch : Int
  pid : Int
  pidEpoch : Int
  seq : Int
  recs : List Rec

structure Met where
  kind : Int
  a : Int
  b : Int
  c : Int
  d : Int
  name : List UInt8
  text : List UInt8
  list : List Int

def zeroBat : Bat := ⟨0, 0, 0, 0, 0, []⟩
def zeroMet : Met := ⟨0, 0, 0, 0, 0, [], [], []⟩

def textL (t : List UInt8) : List UInt8 := intL t.length ++ t
def recL (r : Rec) : List UInt8 := intL r.time ++ textL r.key ++ textL r.val
def recsL : List Rec → List UInt8
  | [] => []
  | r :: s => recL r ++ recsL s
def intsL : List Int → List UInt8
  | [] => []
  | n :: s => intL n ++ intsL s
def numsOf (b : Bat) : List Int := [b.base, b.epoch, b.pid, b.pidEpoch, b.seq]
def bodyL (b : Bat) : List UInt8 := intsL (numsOf b) ++ intL b.recs.length ++ recsL b.recs
def metaL (m : Met) : List UInt8 := intsL [m.kind, m.a, m.b, m.c, m.d] ++ textL m.name ++ textL m.text ++ intL m.list.length ++ intsL m.list

theorem recsL_append : ∀ l m : List Rec, recsL (l ++ m) = recsL l ++ recsL m
  | [], m => rfl
  | r :: s, m => by simp [recsL, recsL_append s m]
theorem intsL_append : ∀ l m : List Int, intsL (l ++ m) = intsL l ++ intsL m
  | [], m => rfl
  | r :: s, m => by simp [intsL, intsL_append s m]
theorem recsL_snoc (l : List Rec) (r : Rec) : recsL (l ++ [r]) = recsL l ++ recL r := by rw [recsL_append]; simp [recsL]
theorem intsL_snoc (l : List Int) (n : Int) : intsL (l ++ [n]) = intsL l ++ intL n := by rw [intsL_append]; simp [intsL]
theorem textL_length (t : List UInt8) : (textL t).length ≤ 10 + t.length := by
  have := intL_length t.length
  simp [textL]; omega
theorem recL_length (r : Rec) : (recL r).length ≤ 30 + r.key.length + r.val.length := by
  have := intL_length r.time
  have := textL_length r.key
  have := textL_length r.val
  simp [recL]; omega
theorem recsL_length (m : Nat) : ∀ l : List Rec, (∀ r ∈ l, r.key.length ≤ m ∧ r.val.length ≤ m) → (recsL l).length ≤ l.length * (30 + 2 * m)
  | [], _ => by simp [recsL]
  | r :: s, h => by
    have h1 := recL_length r
    have h2 := h r (by simp)
    have h3 := recsL_length m s (fun x hx => h x (by simp [hx]))
    simp only [recsL, List.length_append, List.length_cons, Nat.add_mul]
    omega
theorem intsL_length : ∀ l : List Int, (intsL l).length ≤ l.length * 10
  | [] => by simp [intsL]
  | n :: s => by
    have h1 := intL_length n
    have h3 := intsL_length s
    simp only [intsL, List.length_append, List.length_cons, Nat.add_mul]
    omega

/-- Four bytes, the highest first. -/
def fourL (n : Nat) : List UInt8 := [UInt8.ofNat (n / 16777216), UInt8.ofNat (n / 65536), UInt8.ofNat (n / 256), UInt8.ofNat n]
def fourN : List UInt8 → Nat
  | a :: b :: c :: d :: _ => a.toNat * 16777216 + b.toNat * 65536 + c.toNat * 256 + d.toNat
  | _ => 0
theorem fourN_fourL (n : Nat) (more : List UInt8) (h : n < 4294967296) : fourN (fourL n ++ more) = n := by
  simp [fourL, fourN]; omega
theorem fourN_lt (l : List UInt8) : fourN l < 4294967296 := by
  unfold fourN
  split
  · rename_i a b c d r
    have := a.toNat_lt; have := b.toNat_lt; have := c.toNat_lt; have := d.toNat_lt
    omega
  · omega

/- What may be. -/
def inB (n : Int) : Bool := decide (0 ≤ n) && decide (n ≤ 1000000000)
def numsB (b : Bat) : Bool := decide (0 ≤ b.base) && inB b.epoch && inB b.pid && inB b.pidEpoch && inB b.seq && (!(b.pid == 0) || (b.pidEpoch == 0 && b.seq == 0))
def timesB (l : List Rec) : Bool := l.all fun r => inB r.time
def longB (l : List Rec) : Bool := l.any fun r => decide (1000 < r.key.length) || decide (1000 < r.val.length)
def overB (b : Bat) : Bool := decide (1000000000 - ((b.recs.length : Int) - 1) < b.base) || decide (1000000 - ((b.recs.length : Int) - 1) < b.seq)
def rightL (b : Bat) : Int :=
  if (numsB b && timesB b.recs && !b.recs.isEmpty) = false then 1
  else if 64 < b.recs.length then 3
  else if longB b.recs = true then 2
  else if overB b = true then 20
  else if 4096 < (bodyL b).length + 8 then 2 else 0

theorem rightL_ok {b : Bat} (h : rightL b = 0) : numsB b = true ∧ timesB b.recs = true ∧ b.recs ≠ [] ∧ b.recs.length ≤ 64 ∧ longB b.recs = false ∧ overB b = false ∧ (bodyL b).length ≤ 4088 := by
  unfold rightL at h
  by_cases h1 : (numsB b && timesB b.recs && !b.recs.isEmpty) = false
  · rw [if_pos h1] at h; cases h
  rw [if_neg h1] at h
  by_cases h2 : 64 < b.recs.length
  · rw [if_pos h2] at h; cases h
  rw [if_neg h2] at h
  by_cases h3 : longB b.recs = true
  · rw [if_pos h3] at h; cases h
  rw [if_neg h3] at h
  by_cases h4 : overB b = true
  · rw [if_pos h4] at h; cases h
  rw [if_neg h4] at h
  by_cases h5 : 4096 < (bodyL b).length + 8
  · rw [if_pos h5] at h; cases h
  simp at h1 h3 h4
  exact ⟨h1.1, h1.2.1, h1.2.2, by omega, h3, h4, by omega⟩

def batchL (b : Bat) : List UInt8 × Int := if rightL b = 0 then (fourL (bodyL b).length ++ fourL (crcL (bodyL b)) ++ bodyL b, 0) else ([], rightL b)

def metB (m : Met) : Int :=
  if 32 < m.name.length ∨ 1000 < m.text.length then 2
  else if 64 < m.list.length then 3
  else if 2048 < (metaL m).length + 4 then 2 else 0
def metaW (m : Met) : List UInt8 × Int := if metB m = 0 then (fourL (crcL (metaL m)) ++ metaL m, 0) else ([], metB m)

/- A reader: what is left; was anything wrong? -/
structure RS where
  rest : List UInt8
  wrong : Bool
def spoiled : RS := ⟨[], true⟩
def numS (s : RS) : Int × RS := if (readL s.rest).2.2 = 0 then ((readL s.rest).1, ⟨s.rest.drop (readL s.rest).2.1, s.wrong⟩) else (0, spoiled)
def countS (most : Int) (s : RS) : Int × RS := if (numS s).1 < 0 ∨ most < (numS s).1 then (0, spoiled) else numS s
def textS (most : Int) (s : RS) : List UInt8 × RS :=
  if ((countS most s).2.rest.length : Int) < (countS most s).1 then ([], spoiled)
  else ((countS most s).2.rest.take (countS most s).1.toNat, ⟨(countS most s).2.rest.drop (countS most s).1.toNat, (countS most s).2.wrong⟩)
def recS (s : RS) : Rec × RS :=
  (⟨(textS 1000 (numS s).2).1, (textS 1000 (textS 1000 (numS s).2).2).1, (numS s).1⟩, (textS 1000 (textS 1000 (numS s).2).2).2)
def recsS : Nat → RS → List Rec × RS
  | 0, s => ([], s)
  | n + 1, s => ((recsS n s).1 ++ [(recS (recsS n s).2).1], (recS (recsS n s).2).2)
def numsS : Nat → RS → List Int × RS
  | 0, s => ([], s)
  | n + 1, s => ((numsS n s).1 ++ [(numS (numsS n s).2).1], (numS (numsS n s).2).2)
def doneS (s : RS) : Bool := !s.wrong && s.rest.isEmpty

/-- A batch's body, read: the batch, and whether the bytes have the form. -/
def bodyS (l : List UInt8) : Bat × Bool :=
  let s0 : RS := ⟨l, false⟩
  let a1 := numS s0
  let a2 := numS a1.2
  let a3 := numS a2.2
  let a4 := numS a3.2
  let a5 := numS a4.2
  let c := countS 64 a5.2
  let r := recsS c.1.toNat c.2
  (⟨a1.1, a2.1, a3.1, a4.1, a5.1, r.1⟩, doneS r.2)
def readBatchL (l : List UInt8) : Bat × Nat × Int :=
  if l.length < 8 then (zeroBat, 0, 5)
  else if 4096 < 8 + fourN l then (zeroBat, 0, 2)
  else if l.length < 8 + fourN l then (zeroBat, 0, 5)
  else if fourN (l.drop 4) ≠ crcL ((l.drop 8).take (fourN l)) then (zeroBat, 0, 6)
  else if (bodyS ((l.drop 8).take (fourN l))).2 = false ∨ rightL (bodyS ((l.drop 8).take (fourN l))).1 ≠ 0 then (zeroBat, 0, 4)
  else ((bodyS ((l.drop 8).take (fourN l))).1, 8 + fourN l, 0)

def metS (l : List UInt8) : Met × Bool :=
  let s0 : RS := ⟨l, false⟩
  let a1 := numS s0
  let a2 := numS a1.2
  let a3 := numS a2.2
  let a4 := numS a3.2
  let a5 := numS a4.2
  let n := textS 32 a5.2
  let t := textS 1000 n.2
  let c := countS 64 t.2
  let r := numsS c.1.toNat c.2
  (⟨a1.1, a2.1, a3.1, a4.1, a5.1, n.1, t.1, r.1⟩, doneS r.2)
def readMetaL (l : List UInt8) : Met × Int :=
  if l.length < 4 then (zeroMet, 5)
  else if 2048 < l.length then (zeroMet, 2)
  else if fourN l ≠ crcL (l.drop 4) then (zeroMet, 6)
  else if (metS (l.drop 4)).2 = false then (zeroMet, 4)
  else ((metS (l.drop 4)).1, 0)

/- What is written is read as it was. -/
def I64 (n : Int) : Prop := -9223372036854775808 ≤ n ∧ n ≤ 9223372036854775807

theorem numS_intL (n : Int) (more : List UInt8) (h : I64 n) : numS ⟨intL n ++ more, false⟩ = (n, ⟨more, false⟩) := by
  unfold numS
  simp [readL_intL n more h.1 h.2]
theorem countS_intL (most n : Int) (more : List UInt8) (h : I64 n) (h0 : 0 ≤ n) (h1 : n ≤ most) : countS most ⟨intL n ++ more, false⟩ = (n, ⟨more, false⟩) := by
  unfold countS
  rw [numS_intL n more h, if_neg (by simp only; omega)]
theorem textS_textL (most : Int) (t more : List UInt8) (h : (t.length : Int) ≤ most) (hm : most ≤ 1000) : textS most ⟨textL t ++ more, false⟩ = (t, ⟨more, false⟩) := by
  have e : textL t ++ more = intL t.length ++ (t ++ more) := by simp [textL]
  unfold textS
  rw [e, countS_intL most t.length (t ++ more) ⟨by omega, by omega⟩ (by omega) h, if_neg (by simp; omega)]
  simp
theorem recS_recL (r : Rec) (more : List UInt8) (ht : I64 r.time) (hk : r.key.length ≤ 1000) (hv : r.val.length ≤ 1000) : recS ⟨recL r ++ more, false⟩ = (r, ⟨more, false⟩) := by
  have e : recL r ++ more = intL r.time ++ (textL r.key ++ (textL r.val ++ more)) := by simp [recL]
  unfold recS
  rw [e, numS_intL _ _ ht]
  simp only
  rw [textS_textL 1000 r.key _ (by omega) (by omega)]
  simp only
  rw [textS_textL 1000 r.val _ (by omega) (by omega)]
theorem recsS_take (l : List Rec) (more : List UInt8) (h : ∀ r ∈ l, I64 r.time ∧ r.key.length ≤ 1000 ∧ r.val.length ≤ 1000) : ∀ n, n ≤ l.length → recsS n ⟨recsL l ++ more, false⟩ = (l.take n, ⟨recsL (l.drop n) ++ more, false⟩)
  | 0, _ => by simp [recsS]
  | n + 1, hn => by
    have ih := recsS_take l more h n (by omega)
    have hr := h l[n] (List.getElem_mem _)
    have e : recsL (l.drop n) ++ more = recL l[n] ++ (recsL (l.drop (n + 1)) ++ more) := by
      rw [List.drop_eq_getElem_cons (show n < l.length by omega)]
      simp [recsL]
    simp only [recsS, ih, e, recS_recL l[n] _ hr.1 hr.2.1 hr.2.2]
    rw [List.take_succ_eq_append_getElem (show n < l.length by omega)]
theorem recsS_recsL (l : List Rec) (more : List UInt8) (h : ∀ r ∈ l, I64 r.time ∧ r.key.length ≤ 1000 ∧ r.val.length ≤ 1000) : recsS l.length ⟨recsL l ++ more, false⟩ = (l, ⟨more, false⟩) := by
  have := recsS_take l more h l.length (Nat.le_refl _)
  simpa [recsL] using this
theorem numsS_take (l : List Int) (more : List UInt8) (h : ∀ n ∈ l, I64 n) : ∀ n, n ≤ l.length → numsS n ⟨intsL l ++ more, false⟩ = (l.take n, ⟨intsL (l.drop n) ++ more, false⟩)
  | 0, _ => by simp [numsS]
  | n + 1, hn => by
    have ih := numsS_take l more h n (by omega)
    have hr := h l[n] (List.getElem_mem _)
    have e : intsL (l.drop n) ++ more = intL l[n] ++ (intsL (l.drop (n + 1)) ++ more) := by
      rw [List.drop_eq_getElem_cons (show n < l.length by omega)]
      simp [intsL]
    simp only [numsS, ih, e, numS_intL l[n] _ hr]
    rw [List.take_succ_eq_append_getElem (show n < l.length by omega)]
theorem numsS_intsL (l : List Int) (more : List UInt8) (h : ∀ n ∈ l, I64 n) : numsS l.length ⟨intsL l ++ more, false⟩ = (l, ⟨more, false⟩) := by
  have := numsS_take l more h l.length (Nat.le_refl _)
  simpa [intsL] using this

theorem inB_iff (n : Int) : inB n = true ↔ 0 ≤ n ∧ n ≤ 1000000000 := by simp [inB]
theorem i64_of_in {n : Int} (h : inB n = true) : I64 n := by rw [inB_iff] at h; unfold I64; omega

theorem bodyS_bodyL (b : Bat) (hb : I64 b.base) (h : rightL b = 0) : bodyS (bodyL b) = (b, true) := by
  obtain ⟨h1, h2, h3, h4, h5, h6, h7⟩ := rightL_ok h
  simp only [numsB, Bool.and_eq_true] at h1
  obtain ⟨⟨⟨⟨⟨_, e2⟩, e3⟩, e4⟩, e5⟩, _⟩ := h1
  have hr : ∀ r ∈ b.recs, I64 r.time ∧ r.key.length ≤ 1000 ∧ r.val.length ≤ 1000 := by
    intro r hr
    simp only [timesB, List.all_eq_true] at h2
    simp only [longB, List.any_eq_false, Bool.or_eq_true, decide_eq_true_eq] at h5
    have a := h2 r hr
    have c := h5 r hr
    exact ⟨i64_of_in a, by omega, by omega⟩
  have e : bodyL b = intL b.base ++ (intL b.epoch ++ (intL b.pid ++ (intL b.pidEpoch ++ (intL b.seq ++ (intL b.recs.length ++ (recsL b.recs ++ [])))))) := by simp [bodyL, numsOf, intsL]
  unfold bodyS
  rw [e]
  simp only [numS_intL _ _ hb, numS_intL _ _ (i64_of_in e2), numS_intL _ _ (i64_of_in e3), numS_intL _ _ (i64_of_in e4), numS_intL _ _ (i64_of_in e5),
    countS_intL 64 _ _ (show I64 (b.recs.length : Int) from ⟨by omega, by omega⟩) (by omega) (by omega), Int.toNat_natCast, recsS_recsL b.recs [] hr]
  rfl

theorem readBatchL_batchL (b : Bat) (more : List UInt8) (hb : I64 b.base) (h : rightL b = 0) : readBatchL ((batchL b).1 ++ more) = (b, (batchL b).1.length, 0) := by
  obtain ⟨_, _, _, _, _, _, h7⟩ := rightL_ok h
  have e1 : (batchL b).1 = fourL (bodyL b).length ++ (fourL (crcL (bodyL b)) ++ bodyL b) := by unfold batchL; rw [if_pos h]; simp
  have hc := crcL_lt (bodyL b)
  have f1 : fourN (fourL (bodyL b).length ++ (fourL (crcL (bodyL b)) ++ (bodyL b ++ more))) = (bodyL b).length := fourN_fourL _ _ (by omega)
  have f2 : (fourL (bodyL b).length ++ (fourL (crcL (bodyL b)) ++ (bodyL b ++ more))).drop 4 = fourL (crcL (bodyL b)) ++ (bodyL b ++ more) := rfl
  have f3 : (fourL (bodyL b).length ++ (fourL (crcL (bodyL b)) ++ (bodyL b ++ more))).drop 8 = bodyL b ++ more := rfl
  have f4 : fourN (fourL (crcL (bodyL b)) ++ (bodyL b ++ more)) = crcL (bodyL b) := fourN_fourL _ _ hc
  have f5 : (bodyL b ++ more).take (bodyL b).length = bodyL b := List.take_left
  have f6 : (fourL (bodyL b).length ++ (fourL (crcL (bodyL b)) ++ (bodyL b ++ more))).length = 8 + (bodyL b).length + more.length := by simp [fourL]; omega
  have f7 : (fourL (bodyL b).length ++ (fourL (crcL (bodyL b)) ++ bodyL b)).length = 8 + (bodyL b).length := by simp [fourL]; omega
  rw [e1, List.append_assoc, List.append_assoc]
  unfold readBatchL
  rw [f1, f2, f3, f4, f5, f6, f7, bodyS_bodyL b hb h, if_neg (by omega), if_neg (by omega), if_neg (by omega), if_neg (by simp), if_neg (by simp [h])]

theorem metS_metaL (m : Met) (h : I64 m.kind ∧ I64 m.a ∧ I64 m.b ∧ I64 m.c ∧ I64 m.d) (hl : ∀ n ∈ m.list, I64 n) (hn : m.name.length ≤ 32) (ht : m.text.length ≤ 1000) (hm : m.list.length ≤ 64) : metS (metaL m) = (m, true) := by
  have e : metaL m = intL m.kind ++ (intL m.a ++ (intL m.b ++ (intL m.c ++ (intL m.d ++ (textL m.name ++ (textL m.text ++ (intL m.list.length ++ (intsL m.list ++ [])))))))) := by simp [metaL, intsL]
  unfold metS
  rw [e]
  simp only [numS_intL _ _ h.1, numS_intL _ _ h.2.1, numS_intL _ _ h.2.2.1, numS_intL _ _ h.2.2.2.1, numS_intL _ _ h.2.2.2.2, textS_textL 32 m.name _ (by omega) (by omega), textS_textL 1000 m.text _ (by omega) (by omega),
    countS_intL 64 _ _ (show I64 (m.list.length : Int) from ⟨by omega, by omega⟩) (by omega) (by omega), Int.toNat_natCast, numsS_intsL m.list [] hl]
  rfl

theorem metB_ok {m : Met} (h : metB m = 0) : m.name.length ≤ 32 ∧ m.text.length ≤ 1000 ∧ m.list.length ≤ 64 ∧ (metaL m).length ≤ 2044 := by
  unfold metB at h
  by_cases h1 : 32 < m.name.length ∨ 1000 < m.text.length
  · rw [if_pos h1] at h; cases h
  rw [if_neg h1] at h
  by_cases h2 : 64 < m.list.length
  · rw [if_pos h2] at h; cases h
  rw [if_neg h2] at h
  by_cases h3 : 2048 < (metaL m).length + 4
  · rw [if_pos h3] at h; cases h
  omega

theorem readMetaL_metaW (m : Met) (hi : I64 m.kind ∧ I64 m.a ∧ I64 m.b ∧ I64 m.c ∧ I64 m.d) (hl : ∀ n ∈ m.list, I64 n) (h : metB m = 0) : readMetaL (metaW m).1 = (m, 0) := by
  obtain ⟨h1, h2, h3, h4⟩ := metB_ok h
  have e1 : (metaW m).1 = fourL (crcL (metaL m)) ++ metaL m := by unfold metaW; rw [if_pos h]
  have f1 : fourN (fourL (crcL (metaL m)) ++ metaL m) = crcL (metaL m) := fourN_fourL _ _ (crcL_lt _)
  have f2 : (fourL (crcL (metaL m)) ++ metaL m).drop 4 = metaL m := rfl
  have f3 : (fourL (crcL (metaL m)) ++ metaL m).length = 4 + (metaL m).length := by simp [fourL]; omega
  rw [e1]
  unfold readMetaL
  rw [f1, f2, f3, metS_metaL m hi hl h1 h2 h3, if_neg (by omega), if_neg (by omega), if_neg (by simp), if_neg (by simp)]
end Go.Proofs.Ytkdbclnnmpnfgaa

/- What the two checksums do. -/
namespace Go.Proofs.Ytkdbclnnmpnfgaa
open Go.RowKit Go.Maps
set_option linter.unusedSimpArgs false
set_option linter.unusedVariables false
set_option maxRecDepth 100000

theorem ret_int {k : IntKind} {a b : Int} (h : a = b) : Ending.returned (.int k a) = .returned (.int k b) := by rw [h]
theorem ret_bool {a b : Bool} (h : a = b) : Ending.returned (.bool a) = .returned (.bool b) := by rw [h]

theorem take_snoc (s : ByteArray) (k : Nat) (h : k < s.size) : s.data.toList.take (k + 1) = s.data.toList.take k ++ [s[k]] := by
  rw [List.take_succ_eq_append_getElem (by simpa using h)]; rfl

set_option maxHeartbeats 400000 in
theorem crc_any (s : ByteArray) (w : World) (hs : s.size ≤ maxLen) :
    Calls Try.prog 66 #[.string s] w fun e w' => e = .returned (.int .i64 (crcL s.data.toList : Nat)) ∧ w = w' := by
  unfold maxLen at hs
  go_enter Try.func66, Try.ntmps66
  go_wp2
  go_loop [3, 8] (fun c i => ∃ k : Nat, k ≤ s.size ∧ i = .int .i64 k ∧ c = .int .u32 ((crcRun 4294967295 (s.data.toList.take k) : Nat) : Int)) (fun _ i => s.size - (intOf i).toNat)
  case atStart => exact ⟨0, Nat.zero_le _, rfl, rfl⟩
  case round =>
    obtain ⟨k, hk, rfl, rfl⟩ := hrel
    have hc := crcRun_lt (s.data.toList.take k) 4294967295 (by omega)
    by_cases hlt : k < s.size
    · have hsn : Hid (crcRun 4294967295 (s.data.toList.take (k + 1)) = crcByte (crcRun 4294967295 (s.data.toList.take k)) s[k]) := by show _ = _; rw [take_snoc s k hlt, crcRun_snoc]
      generalize hC : crcRun 4294967295 (s.data.toList.take k) = C at *
      have hb := s[k].toNat_lt
      have hx := u32_xor_nat C s[k].toNat hc (by omega)
      clear hC
      go_wp2
      have hX := xor_lt C s[k].toNat hc (by omega)
      go_loop [3, 17] (fun c j => ∃ m : Nat, m ≤ 8 ∧ j = .int .i64 m ∧ c = .int .u32 ((crcBits m (C ^^^ s[k].toNat) : Nat) : Int)) (fun _ j => 8 - (intOf j).toNat)
      case atStart => exact ⟨0, Nat.zero_le _, rfl, rfl⟩
      case round =>
        obtain ⟨m, hm, rfl, rfl⟩ := hrel
        have hD := crcBits_lt (C ^^^ s[k].toNat) hX m
        by_cases hm8 : m < 8
        · have hst : Hid (crcBits (m + 1) (C ^^^ s[k].toNat) = crcBit (crcBits m (C ^^^ s[k].toNat))) := rfl
          clear hx
          generalize crcBits m (C ^^^ s[k].toNat) = D at *
          have hh := u32_xor_nat (D / 2) 2197175160 (by omega) (by omega)
          rw [show (((D / 2 : Nat) : Int)) = (D : Int) / 2 by omega, show (((2197175160 : Nat) : Int)) = 2197175160 by rfl] at hh
          have hm8' : (m : Int) < 8 := by omega
          by_cases hodd : D % 2 = 1
          · have hst2 : Hid (crcBits (m + 1) (C ^^^ s[k].toNat) = (D / 2) ^^^ 2197175160) := by show _ = _; rw [hst.out, crcBit, if_pos hodd]
            have ha : bits .and .u32 (D : Int) 1 = 1 := by have := u32_and_nat D 1 (by omega) (by omega); rw [nat_mask1] at this; rw [show (((1 : Nat) : Int)) = 1 by rfl] at this; rw [this]; omega
            go_wp2
            go_round
            case rel => exact ⟨m + 1, by omega, by go_num, by rw [hst2.out]⟩
            case measure => simp [intOf]; omega
          · have hst2 : Hid (crcBits (m + 1) (C ^^^ s[k].toNat) = D / 2) := by show _ = _; rw [hst.out, crcBit, if_neg hodd]
            have ha : bits .and .u32 (D : Int) 1 = 0 := by have := u32_and_nat D 1 (by omega) (by omega); rw [nat_mask1] at this; rw [show (((1 : Nat) : Int)) = 1 by rfl] at this; rw [this]; omega
            go_wp2
            go_round
            case rel => exact ⟨m + 1, by omega, by go_num, by rw [hst2.out]; go_num⟩
            case measure => simp [intOf]; omega
        · have hm8' : ¬ (m : Int) < 8 := by omega
          have hm9 : m = 8 := by omega
          subst hm9
          go_wp2
          go_round
          case rel => exact ⟨k + 1, by omega, by go_num, by rw [hsn.out]; rfl⟩
          case measure => simp [intOf]; omega
    · have he : s.data.toList.take k = s.data.toList := List.take_of_length_le (by simp; omega)
      have hx : bits .xor .u32 IntKind.u32.max ((crcRun 4294967295 (s.data.toList.take k) : Nat) : Int) = ((crcL s.data.toList : Nat) : Int) := by
        rw [he, show IntKind.u32.max = ((4294967295 : Nat) : Int) by decide, u32_xor_nat _ _ (by omega) (by rw [← he]; exact hc), Nat.xor_comm]; rfl
      have hcl := crcL_lt s.data.toList
      have hlt' : ¬ (k : Int) < (s.size : Int) := by omega
      clear he
      go_wp2
      go_ret
      exact ⟨ret_int (IntWalk.wrap64_in _ ⟨by omega, by omega⟩), rfl⟩

end Go.Proofs.Ytkdbclnnmpnfgaa

