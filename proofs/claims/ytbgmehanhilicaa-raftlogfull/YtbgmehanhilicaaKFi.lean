/- A row of numbers among the arguments. -/
import Derived.Test.YtbgmehanhilicaaKF4
import Derived.Test.YtbgmehanhilicaaK24
namespace Go.Proofs.Ytbgmehanhilicaa
open Go.ChangeShapes Go.WideShapes Go.ChangeAt Go.RowKit
set_option linter.unusedVariables false
set_option linter.unusedSimpArgs false

/-- A slice of integers that came in: nil, or a row of so many numbers. -/
def IsRow (k : IntKind) (w : World) (a : Option Addr) (len cap : Nat) (zs : List Int) : Prop :=
  (a = none ∧ len = 0 ∧ cap = 0 ∧ zs = []) ∨
  ∃ x, a = some x ∧ len ≤ cap ∧ cap ≤ maxLen ∧ zs.length = cap ∧ (∀ i, i < zs.length → w.cell? (x.add i) = some (.int k (zs.getD i 0))) ∧ ∀ n ∈ zs, (Lit.int k n).wf = true
theorem IsRow.nums {w : World} {a : Option Addr} {len cap : Nat} {zs : List Int} (h : IsRow .i64 w a len cap zs) : ∃ ks : List Int, len = ks.length ∧ Nums w a ks := by
  rcases h with ⟨rfl, rfl, rfl, rfl⟩ | ⟨x, rfl, hl, hm, hz, hcell, hwz⟩
  · exact ⟨[], rfl, .inl rfl, fun h => absurd rfl h, Nat.zero_le _⟩
  · have hlen : (zs.take len).length = len := by rw [List.length_take]; omega
    refine ⟨zs.take len, hlen.symm, ?_, ?_, by omega⟩
    · by_cases h0 : len = 0
      · left; subst h0; simp
      · obtain ⟨b, off, spot⟩ := x
        have hc := hcell 0 (by omega)
        cases spot with
        | some sp =>
          exfalso
          simp [World.cell?, Addr.add] at hc
          split at hc <;> simp_all
        | none =>
          refine .inr ⟨b, off, rfl, fun j hj => ?_⟩
          have hjz : j < zs.length := by rw [List.length_take] at hj; omega
          have hadd : (⟨b, off, none⟩ : Addr).add j = ⟨b, off + j, none⟩ := by unfold Addr.add; split <;> simp_all
          have h2 := hcell j hjz
          have e : (zs.take len)[j] = zs.getD j 0 := by simp [List.getD, hjz]
          rw [hadd] at h2
          have hb := bounds_i64 (hwz (zs.getD j 0) (by simp [List.getD, hjz]))
          rw [e]
          exact ⟨h2, hb.1, hb.2⟩
    · intro hne b off e
      cases e
      have h0 : 0 < zs.length := by
        rcases Nat.eq_zero_or_pos zs.length with h | h
        · exact absurd (by rw [List.eq_nil_of_length_eq_zero h]; simp) hne
        · exact h
      have hc := hcell 0 h0
      exact World.block_lt_of_cell? w _ hc
end Go.Proofs.Ytbgmehanhilicaa

