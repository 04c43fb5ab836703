/- Assign: a row of lists. -/
import Derived.Test.YtdnpbhijjmlecaaG2
namespace Go.Proofs.Ytdnpbhijjmlecaa
open Go.RowKit Go.Maps
set_option maxRecDepth 100000
set_option linter.unusedSimpArgs false
set_option linter.unusedVariables false

theorem from_le (n k : Nat) : ∀ i, i ≤ k → fromN n k i = i * (n / k) + min i (n % k)
  | 0, _ => by simp [fromN]
  | i + 1, h => by
    rw [fromN, from_le n k i (by omega), shareN, Nat.succ_mul]
    split <;> omega
theorem from_all (n k : Nat) (hk : 0 < k) : fromN n k k = n := by
  rw [from_le n k k (Nat.le_refl _), Nat.min_eq_right (Nat.le_of_lt (Nat.mod_lt _ hk))]
  exact Nat.div_add_mod n k
theorem from_mono (n k : Nat) : ∀ (d i : Nat), fromN n k i ≤ fromN n k (i + d)
  | 0, i => Nat.le_refl _
  | d + 1, i => Nat.le_trans (from_mono n k d i) (by rw [← Nat.add_assoc, fromN]; omega)
theorem from_top (n k i : Nat) (hi : i < k) : fromN n k i + shareN n k i ≤ n := by
  have h1 := from_mono n k (k - (i + 1)) (i + 1)
  rw [show i + 1 + (k - (i + 1)) = k by omega, from_all n k (by omega), fromN] at h1
  exact h1
theorem share_le (n k i : Nat) (hi : i < k) : shareN n k i ≤ n := by have := from_top n k i hi; omega
theorem shareL_len (l : List Int) (k i : Nat) (hi : i < k) : (shareL l k i).length = shareN l.length k i := by
  have := from_top l.length k i hi
  unfold shareL
  rw [List.length_take, List.length_drop]
  omega
/-- A row of lists. -/
def LsAt (w : World) (B : Nat) (vs : List Value) (ls : List (List Int)) : Prop := vs.length = ls.length ∧ ∀ i (h : i < vs.length) (h2 : i < ls.length), IL w vs[i] ls[i] ∧ In (fun b => B ≤ b) vs[i] ls[i]
def noS : Value := .slice none 0 0
theorem info30 : ∃ i, Try.prog.info? 30 = some i ∧ i.zero = some noS ∧ i.size = 1 ∧ i.bytes = 24 := ⟨_, rfl, rfl, rfl, rfl⟩
theorem make42 (w : World) (n : Nat) (hn : n ≤ 1000) : (Instr.makeSlice 42 (.int .i64 (n : Int)) (.int .i64 (n : Int))).run Try.prog w = .ok (.slice (some ⟨w.heap.size, 0, none⟩) n n) (w.alloc (.cells (List.replicate n noS).toArray 30)) := by
  obtain ⟨i, h1, h2, h3, h4⟩ := info30
  have := run_makeSlice (P := Try.prog) w 42 30 i _ Try.underlying42 h1 h2 .i64 .i64 (n : Int) (n : Int) (by omega) (Int.le_refl _) (by rw [h3]; simp; omega) (by rw [h4]; omega) (by omega)
  rw [this, h3]
  have e : madeCells noS.cells (n * 1) = (List.replicate n noS).toArray := by
    apply Array.ext_getElem?
    intro i
    have hc : noS.cells = #[noS] := by kernel_rfl
    rw [hc]
    by_cases h : i < n
    · simp [madeCells, h, Nat.mod_one]
    · simp [madeCells, h]
  simp only [Int.toNat_natCast]
  rw [e]
end Go.Proofs.Ytdnpbhijjmlecaa
