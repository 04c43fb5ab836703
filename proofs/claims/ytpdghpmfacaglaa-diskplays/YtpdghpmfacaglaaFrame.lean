/- What the arguments of a statement are in memory. -/
import Derived.Test.YtpdghpmfacaglaaShown
import Derived.ProofKit
import Derived.OpenShut
import Derived.ShutString
import Derived.ChangeOld
import Derived.SliceStrings
namespace Go.Proofs.Ytpdghpmfacaglaa
open Go.ChangeShapes Go.WideShapes Go.ChangeAt Go.RowKit
open Go.ChangeMaps (open_string shut_string)
set_option linter.unusedVariables false

theorem own : ownKnob Try.prog.godebug = none := by kernel_rfl
theorem laidOut : laidOutB Try.prog = true := by kernel_rfl

/- A slice of integers that came in: nil, or a row of so many numbers. -/
def IsRow (k : IntKind) (w : World) (a : Option Addr) (len cap : Nat) (zs : List Int) : Prop :=
  (a = none ∧ len = 0 ∧ cap = 0 ∧ zs = []) ∨
  ∃ x, a = some x ∧ len ≤ cap ∧ cap ≤ maxLen ∧ zs.length = cap ∧ (∀ i, i < zs.length → w.cell? (x.add i) = some (.int k (zs.getD i 0))) ∧ ∀ n ∈ zs, (Lit.int k n).wf = true

theorem IsRow.ints {w : World} {a : Option Addr} {len cap : Nat} {zs : List Int} (h : IsRow .i64 w a len cap zs) : ∃ ks : List Int, len = ks.length ∧ IntsAt w a ks ∧ (ks ≠ [] → ∀ b off, a = some ⟨b, off, none⟩ → b < w.heap.size) := by
  rcases h with ⟨rfl, rfl, rfl, rfl⟩ | ⟨x, rfl, hl, hm, hz, hcell, hwz⟩
  · exact ⟨[], rfl, .inl rfl, fun h => absurd rfl h⟩
  · have hlen : (zs.take len).length = len := by rw [List.length_take]; omega
    refine ⟨zs.take len, hlen.symm, ?_, ?_⟩
    · by_cases h0 : len = 0
      · left; subst h0; simp
      · obtain ⟨b, off, spot⟩ := x
        have hc := hcell 0 (by omega)
        cases spot with
        | some sp =>
          exfalso
          simp [World.cell?, Addr.add] at hc
          split at hc <;> simp_all
        | none =>
          refine .inr ⟨b, off, rfl, fun j hj => ?_⟩
          have hjz : j < zs.length := by rw [List.length_take] at hj; omega
          have hadd : (⟨b, off, none⟩ : Addr).add j = ⟨b, off + j, none⟩ := by unfold Addr.add; split <;> simp_all
          have h2 := hcell j hjz
          have e : (zs.take len)[j] = zs.getD j 0 := by simp [List.getD, hjz]
          rw [hadd] at h2
          have hb := bounds_i64 (hwz (zs.getD j 0) (by simp [List.getD, hjz]))
          rw [e]
          exact ⟨h2, hb.1, hb.2⟩
    · intro hne b off e
      cases e
      have h0 : 0 < zs.length := by
        rcases Nat.eq_zero_or_pos zs.length with h | h
        · exact absurd (by rw [List.eq_nil_of_length_eq_zero h]; simp) hne
        · exact h
      have hc := hcell 0 h0
      exact World.block_lt_of_cell? w _ hc

theorem pick_fix (c m : Int) (h1 : -9223372036854775808 ≤ c) (h2 : c ≤ 9223372036854775807) (hm : 1 ≤ m) (hm2 : m ≤ 5000) : ∃ r : Int, 0 ≤ r ∧ r < m ∧ ∀ W, Calls Try.prog 17 #[.int .i64 c, .int .i64 m] W fun e w' => e = .returned (.int .i64 r) ∧ w' = W :=
  ⟨pickI c m, (pickI_range c m hm).1, (pickI_range c m hm).2, fun W => pick_any c m W h1 h2 hm hm2⟩

theorem IsRow.len_le {w : World} {a : Option Addr} {len cap : Nat} {zs : List Int} (h : IsRow .i64 w a len cap zs) : len ≤ maxLen := by
  rcases h with ⟨_, h, _, _⟩ | ⟨x, _, h1, h2, _⟩
  · rw [h]; exact Nat.zero_le _
  · omega
end Go.Proofs.Ytpdghpmfacaglaa
