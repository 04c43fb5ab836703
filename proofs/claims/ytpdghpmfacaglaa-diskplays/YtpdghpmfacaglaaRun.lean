/- What run does: a new disk behind the first hundred calls. -/
import Derived.Test.YtpdghpmfacaglaaCalls
namespace Go.Proofs.Ytpdghpmfacaglaa
open Go.RowKit Go.Maps Go.Sort
set_option maxRecDepth 100000
set_option linter.unusedSimpArgs false
set_option linter.unusedVariables false

def OpCells (w : World) (b o : Nat) (x : OpV) : Prop :=
  w.cell? ⟨b, o, none⟩ = some (.int .i64 x.kind) ∧ w.cell? ⟨b, o + 1, none⟩ = some (.string x.name) ∧ w.cell? ⟨b, o + 2, none⟩ = some (.string x.b) ∧ w.cell? ⟨b, o + 3, none⟩ = some (.int .i64 x.n) ∧ w.cell? ⟨b, o + 4, none⟩ = some x.keep

/-- A script in memory. -/
def OpsAt (w : World) (so : Option Addr) (ops : List OpV) : Prop :=
  ops = [] ∨ ∃ b off, so = some ⟨b, off, none⟩ ∧ b < w.heap.size ∧ ∀ i (hi : i < ops.length), ops[i].ok ∧ OpCells w b (off + i * 5) ops[i]

def runL (size : Nat) (ops : List OpV) : List AF := ops.foldl (opL size) []

theorem runL_step (size : Nat) (ops : List OpV) (k : Nat) (hk : k < ops.length) : runL size (ops.take (k + 1)) = opL size (runL size (ops.take k)) ops[k] := by
  unfold runL
  rw [List.take_succ_eq_append_getElem hk, List.foldl_append]
  rfl

set_option maxHeartbeats 1600000 in
theorem run_walk (w : World) (n : Nat) (hn1 : 1 ≤ n) (hn2 : n ≤ 16777216) (so : Option Addr) (ops : List OpV) (cap : Nat) (hops : Hid (OpsAt w so ops)) (hol : ops.length ≤ 9223372036854775807) :
    Calls Try.prog 24 #[.int .i64 (n : Int), .slice so ops.length cap] w fun e w' => e = .returned (.pointer (some ⟨w.heap.size, 0, none⟩)) ∧ ∃ S, On w.heap.size w w' w.heap.size n (runL n (ops.take 100)) S := by
  go_enter Try.func24, Try.ntmps24
  go_wp2_with (go_at_call 10; refine (sh0 n _ hn1 hn2 w.heap.size w (Below.refl _ _) (Nat.le_refl _) _ rfl).mono ?_; rintro e w1 ⟨rfl, hd1, -⟩)
  have HD1 : Hid (On w.heap.size w w1 w.heap.size n [] (fun k => k = w.heap.size)) := hd1
  clear hd1
  go_loopw [7] (fun i0 wr => ∃ (k : Nat) (S : Nat → Prop), k ≤ ops.length ∧ k ≤ 100 ∧ i0 = .int .i64 (k : Int) ∧ Hid (On w.heap.size w wr w.heap.size n (runL n (ops.take k)) S)) (fun i0 _ => ops.length - (intOf i0).toNat)
  case atStart => exact ⟨0, _, Nat.zero_le _, by omega, rfl, HD1.out⟩
  case round =>
    obtain ⟨k, S, hkl, hk100, rfl, hI⟩ := hrel
    by_cases hgo : k < ops.length ∧ k < 100
    · obtain ⟨hk1, hk2⟩ := hgo
      have hk1' : (k : Int) < (ops.length : Int) := by omega
      have hk2' : (k : Int) < 100 := by omega
      obtain ⟨b, off, hse, hbw, hcells⟩ : ∃ b off, so = some ⟨b, off, none⟩ ∧ b < w.heap.size ∧ ∀ i (hi : i < ops.length), ops[i].ok ∧ OpCells w b (off + i * 5) ops[i] := by
        rcases hops.out with h | h
        · rw [h] at hk1; simp at hk1
        · exact h
      obtain ⟨hok, hc⟩ := hcells k hk1
      have hst := runL_step n ops k hk1
      have HSt : Hid (runL n (ops.take (k + 1)) = opL n (runL n (ops.take k)) ops[k]) := hst
      generalize ops[k] = o at *
      have HC : Hid (Calls Try.prog 26 #[.pointer (some ⟨w.heap.size, 0, none⟩), o.val] wr fun e w' => e = .returned (.int .i64 (opE n (runL n (ops.take k)) o : Int)) ∧ AfterA S wr w' w.heap.size n (opL n (runL n (ops.take k)) o)) := callsA hI.out.1 o hok
      obtain ⟨kind, name, bb, nn, keep⟩ := o
      obtain ⟨oa, kl, kc, hke⟩ := hok.2.2.2
      simp only at hke
      subst hke
      subst hse
      have hbl : Below w.heap.size w wr := hI.out.2.2.1
      unfold OpCells at hc
      simp only at hc
      obtain ⟨q0, q1, q2, q3, q4⟩ := hc
      have p0 := (hbl.cell (p := ⟨b, off + k * 5, none⟩) hbw).trans q0
      have p1 := (hbl.cell (p := ⟨b, off + k * 5 + 1, none⟩) hbw).trans q1
      have p2 := (hbl.cell (p := ⟨b, off + k * 5 + 2, none⟩) hbw).trans q2
      have p3 := (hbl.cell (p := ⟨b, off + k * 5 + 3, none⟩) hbw).trans q3
      have p4 := (hbl.cell (p := ⟨b, off + k * 5 + 4, none⟩) hbw).trans q4
      clear q0 q1 q2 q3 q4 hbl hcells hok hst
      go_wp2_with (go_at_call 26; refine HC.out.mono ?_; rintro e w2 ⟨rfl, hA⟩; obtain ⟨S2, hd2, -, -⟩ := hI.out.step hA; clear hA)
      go_roundw
      case rel => exact ⟨k + 1, S2, by omega, by omega, by go_num, by show On _ _ _ _ _ _ _; rw [HSt.out]; exact hd2⟩
      case measure => simp [intOf]; omega
    · have e1 : ops.take 100 = ops.take k := by
        rcases Nat.lt_or_ge k ops.length with h | h
        · have : k = 100 := by omega
          rw [this]
        · rw [List.take_of_length_le (by omega), List.take_of_length_le h]
      by_cases h1 : k < ops.length
      · have h1' : (k : Int) < (ops.length : Int) := by omega
        have h2' : ¬ ((k : Int) < 100) := by omega
        clear hgo
        go_wp2
        go_ret
        exact ⟨rfl, S, hI.out⟩
      · have h1' : ¬ ((k : Int) < (ops.length : Int)) := by omega
        clear hgo
        go_wp2
        go_ret
        exact ⟨rfl, S, hI.out⟩
end Go.Proofs.Ytpdghpmfacaglaa
