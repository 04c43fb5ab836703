/- CRC-32C on lists of bytes: its bounds, and that one byte that is another one makes it another one. -/
import Derived.Laws.BitsAllLaws
namespace Go.Proofs.YtocdlaoklagdoaaDoor
set_option linter.unusedSimpArgs false
set_option linter.unusedVariables false

def crcBit (c : Nat) : Nat := if c % 2 = 1 then (c / 2) ^^^ 2197175160 else c / 2
def crcBits : Nat → Nat → Nat
  | 0, c => c
  | k + 1, c => crcBit (crcBits k c)
def crcByte (c : Nat) (b : UInt8) : Nat := crcBits 8 (c ^^^ b.toNat)
def crcRun (c : Nat) (l : List UInt8) : Nat := l.foldl crcByte c
def crcL (l : List UInt8) : Nat := crcRun 4294967295 l ^^^ 4294967295

theorem xor_lt (a b : Nat) (ha : a < 4294967296) (hb : b < 4294967296) : a ^^^ b < 4294967296 := Nat.xor_lt_two_pow (n := 32) ha hb
theorem u8_lt (b : UInt8) : b.toNat < 4294967296 := by have := b.toNat_lt; omega

theorem crcBit_lt (c : Nat) (h : c < 4294967296) : crcBit c < 4294967296 := by
  unfold crcBit
  split
  · exact xor_lt _ _ (by omega) (by omega)
  · omega
theorem crcBits_lt (c : Nat) (h : c < 4294967296) : ∀ k, crcBits k c < 4294967296
  | 0 => h
  | k + 1 => crcBit_lt _ (crcBits_lt c h k)
theorem crcByte_lt (c : Nat) (b : UInt8) (h : c < 4294967296) : crcByte c b < 4294967296 := crcBits_lt _ (xor_lt _ _ h (u8_lt b)) 8
theorem crcRun_lt : ∀ (l : List UInt8) (c : Nat), c < 4294967296 → crcRun c l < 4294967296
  | [], c, h => h
  | b :: r, c, h => crcRun_lt r (crcByte c b) (crcByte_lt c b h)
theorem crcL_lt (l : List UInt8) : crcL l < 4294967296 := xor_lt _ _ (crcRun_lt l _ (by omega)) (by omega)

theorem crcRun_snoc (c : Nat) (l : List UInt8) (b : UInt8) : crcRun c (l ++ [b]) = crcByte (crcRun c l) b := by simp [crcRun]
theorem crcRun_append (c : Nat) (l m : List UInt8) : crcRun c (l ++ m) = crcRun (crcRun c l) m := by simp [crcRun]

theorem xor_cancel {a b c : Nat} (h : a ^^^ c = b ^^^ c) : a = b := by
  have h1 : (a ^^^ c) ^^^ c = (b ^^^ c) ^^^ c := by rw [h]
  rwa [Nat.xor_assoc, Nat.xor_self, Nat.xor_zero, Nat.xor_assoc, Nat.xor_self, Nat.xor_zero] at h1
theorem xor_cancel_left {a b c : Nat} (h : c ^^^ a = c ^^^ b) : a = b := by
  rw [Nat.xor_comm c a, Nat.xor_comm c b] at h
  exact xor_cancel h

theorem top_odd (c : Nat) (h : c < 4294967296) : ((c / 2) ^^^ 2197175160).testBit 31 = true := by
  have h1 : (c / 2).testBit 31 = false := Nat.testBit_lt_two_pow (by omega)
  have h2 : (2197175160 : Nat).testBit 31 = true := by decide
  rw [Nat.testBit_xor, h1, h2]; rfl
theorem top_even (c : Nat) (h : c < 4294967296) : (c / 2).testBit 31 = false := Nat.testBit_lt_two_pow (by omega)

theorem crcBit_inj (c d : Nat) (hc : c < 4294967296) (hd : d < 4294967296) (h : crcBit c = crcBit d) : c = d := by
  unfold crcBit at h
  by_cases h1 : c % 2 = 1
  · rw [if_pos h1] at h
    by_cases h2 : d % 2 = 1
    · rw [if_pos h2] at h
      have := xor_cancel h
      omega
    · rw [if_neg h2] at h
      have e1 := top_odd c hc
      rw [h, top_even d hd] at e1
      cases e1
  · rw [if_neg h1] at h
    by_cases h2 : d % 2 = 1
    · rw [if_pos h2] at h
      have e1 := top_odd d hd
      rw [← h, top_even c hc] at e1
      cases e1
    · rw [if_neg h2] at h
      omega
theorem crcBits_inj (c d : Nat) (hc : c < 4294967296) (hd : d < 4294967296) : ∀ k, crcBits k c = crcBits k d → c = d
  | 0, h => h
  | k + 1, h => crcBits_inj c d hc hd k (crcBit_inj _ _ (crcBits_lt c hc k) (crcBits_lt d hd k) h)
theorem crcByte_inj (c d : Nat) (b : UInt8) (hc : c < 4294967296) (hd : d < 4294967296) (h : crcByte c b = crcByte d b) : c = d :=
  xor_cancel (crcBits_inj _ _ (xor_lt _ _ hc (u8_lt b)) (xor_lt _ _ hd (u8_lt b)) 8 h)
theorem crcByte_byte (c : Nat) (a b : UInt8) (hc : c < 4294967296) (h : crcByte c a = crcByte c b) : a = b :=
  UInt8.toNat_inj.1 (xor_cancel_left (crcBits_inj _ _ (xor_lt _ _ hc (u8_lt a)) (xor_lt _ _ hc (u8_lt b)) 8 h))
theorem crcRun_inj : ∀ (l : List UInt8) (c d : Nat), c < 4294967296 → d < 4294967296 → crcRun c l = crcRun d l → c = d
  | [], c, d, _, _, h => h
  | b :: r, c, d, hc, hd, h => crcByte_inj c d b hc hd (crcRun_inj r _ _ (crcByte_lt c b hc) (crcByte_lt d b hd) h)

/-- One byte that is another one: another checksum. -/
theorem crcL_other (p s : List UInt8) (a b : UInt8) (h : crcL (p ++ a :: s) = crcL (p ++ b :: s)) : a = b := by
  have h1 := xor_cancel h
  rw [crcRun_append, crcRun_append] at h1
  have hp := crcRun_lt p 4294967295 (by omega)
  exact crcByte_byte _ a b hp (crcRun_inj s _ _ (crcByte_lt _ a hp) (crcByte_lt _ b hp) h1)
theorem crcL_set (l : List UInt8) (k : Nat) (x : UInt8) (hk : k < l.length) (h : crcL (l.set k x) = crcL l) : x = l[k] := by
  have e1 : l = l.take k ++ l[k] :: l.drop (k + 1) := by rw [← List.drop_eq_getElem_cons hk, List.take_append_drop]
  have e2 : l.set k x = l.take k ++ x :: l.drop (k + 1) := by rw [List.set_eq_take_append_cons_drop, if_pos hk]
  have e3 : crcL l = crcL (l.take k ++ l[k] :: l.drop (k + 1)) := congrArg crcL e1
  rw [e2, e3] at h
  exact crcL_other _ _ _ _ h
end Go.Proofs.YtocdlaoklagdoaaDoor
