/- What is read is what was written: there are no other bytes of a number. -/
import Derived.Test.YtkdbclnnmpnfgaaH0
namespace Go.Proofs.Ytkdbclnnmpnfgaa
set_option linter.unusedSimpArgs false
set_option linter.unusedVariables false

theorem zz_unzz (z : Nat) : zz (unzz z) = z := by unfold zz unzz; split <;> split <;> omega
theorem ofNat_toNat8 (d : UInt8) : UInt8.ofNat d.toNat = d := by simp
theorem rdZ_inv : ∀ (f i z0 : Nat) (l : List UInt8), i + f = 9 → (rdZ (f + 1) i z0 l).2.2 = 0 → ∃ (z : Nat) (more : List UInt8), l = digs f z ++ more ∧ rdZ (f + 1) i z0 l = (z0 + z * 128 ^ i, i + (digs f z).length, 0) ∧ (i = 0 ∨ 0 < z)
  | f, i, z0, [], hi, h => by simp [rdZ] at h
  | f, i, z0, d :: r, hi, h => by
    rw [rdZ] at h ⊢
    by_cases hc : (i = 9 ∧ 1 < d.toNat) ∨ (0 < i ∧ d.toNat = 0)
    · rw [if_pos hc] at h; simp at h
    · rw [if_neg hc] at h ⊢
      by_cases hd : d.toNat < 128
      · rw [if_pos hd] at h ⊢
        have hg : digs f d.toNat = [d] := by
          cases f with
          | zero => simp [digs]
          | succ f => simp [digs, if_pos hd]
        exact ⟨d.toNat, r, by rw [hg]; rfl, by rw [hg]; rfl, by omega⟩
      · rw [if_neg hd] at h ⊢
        cases f with
        | zero => omega
        | succ f =>
          obtain ⟨z', more, e1, e2, e3⟩ := rdZ_inv f (i + 1) (z0 + d.toNat % 128 * 128 ^ i) r (by omega) h
          have hlt := d.toNat_lt
          have h256 : d.toNat < 256 := by simpa using hlt
          have hz : 0 < z' := by omega
          have hdg : digs (f + 1) (d.toNat % 128 + 128 * z') = d :: digs f z' := by
            have a1 : ¬ d.toNat % 128 + 128 * z' < 128 := by omega
            have a2 : (d.toNat % 128 + 128 * z') % 128 + 128 = d.toNat := by omega
            have a3 : (d.toNat % 128 + 128 * z') / 128 = z' := by omega
            rw [digs, if_neg a1, a2, a3, ofNat_toNat8]
          refine ⟨d.toNat % 128 + 128 * z', more, by rw [hdg, e1]; rfl, ?_, by omega⟩
          rw [e2, hdg]
          have a4 : (d.toNat % 128 + 128 * z') * 128 ^ i = d.toNat % 128 * 128 ^ i + z' * 128 ^ (i + 1) := by
            rw [Nat.add_mul, Nat.pow_succ, Nat.mul_comm 128 z', Nat.mul_assoc, Nat.mul_comm 128 (128 ^ i)]
          rw [a4]
          simp only [List.length_cons, Prod.mk.injEq, and_true]
          omega
theorem readL_inv (l : List UInt8) (h : (readL l).2.2 = 0) : l = intL (readL l).1 ++ l.drop (readL l).2.1 := by
  have h0 : (rdZ 10 0 0 l).2.2 = 0 := by
    unfold readL okI at h
    split at h
    · assumption
    · exact h
  obtain ⟨z, more, e1, e2, _⟩ := rdZ_inv 9 0 0 l rfl h0
  have e3 : readL l = (unzz z, (digs 9 z).length, 0) := by
    unfold readL
    rw [e2]
    simp [okI]
  rw [e3]
  show l = intL (unzz z) ++ l.drop (digs 9 z).length
  have e4 : intL (unzz z) = digs 9 z := by unfold intL; rw [zz_unzz]
  rw [e4]
  conv => lhs; rw [e1]
  congr 1
  rw [e1, List.drop_left' rfl]
/-- A number that was read rightly. -/
theorem num_inv {s : RS} (h : (numS s).2.wrong = false) : s.wrong = false ∧ s.rest = intL (numS s).1 ++ (numS s).2.rest := by
  unfold numS at h ⊢
  split at h
  · rename_i h0
    rw [if_pos h0]
    exact ⟨h, readL_inv _ h0⟩
  · simp [spoiled] at h
end Go.Proofs.Ytkdbclnnmpnfgaa

