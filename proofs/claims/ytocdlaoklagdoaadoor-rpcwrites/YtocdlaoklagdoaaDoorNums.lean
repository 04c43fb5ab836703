/- A batch's numbers: batchNumbers, rightNumbers, goesOver. -/
import Derived.Test.YtocdlaoklagdoaaDoorMem
namespace Go.Proofs.YtocdlaoklagdoaaDoor
open Go.RowKit Go.Maps
set_option linter.unusedSimpArgs false
set_option linter.unusedVariables false
set_option maxRecDepth 100000

def batV (b : Bat) (rv : Value) : Value := .agg #[.int .i64 b.base, .int .i64 b.epoch, .int .i64 b.pid, .int .i64 b.pidEpoch, .int .i64 b.seq, rv]
/-- A batch's numbers are ints. -/
structure Bat.ints (b : Bat) : Prop where
  h0 : I64 b.base
  h1 : I64 b.epoch
  h2 : I64 b.pid
  h3 : I64 b.pidEpoch
  h4 : I64 b.seq

theorem numbers_any (a0 a1 a2 a3 a4 : Int) (s : Option Addr) (n c : Nat) (w : World) :
    Calls Tryd.prog 83 #[.agg #[.int .i64 a0, .int .i64 a1, .int .i64 a2, .int .i64 a3, .int .i64 a4, .slice s n c]] w fun e w' => e = .returned (.agg #[.int .i64 a0, .int .i64 a1, .int .i64 a2, .int .i64 a3, .int .i64 a4]) ∧ Below w.heap.size w w' := by
  go_enter Tryd.func83, Tryd.ntmps83
  go_wp2
  refine bodyPost_ret (v := .agg #[.int .i64 a0, .int .i64 a1, .int .i64 a2, .int .i64 a3, .int .i64 a4]) (by simp [results, Tryd.results83, go_sem]) rfl ⟨rfl, ?_⟩
  exact ((Below.refl _ _).alloc (Nat.le_refl _) _).alloc (by simp) _

theorem over_any {w : World} (b : Bat) (s : Option Addr) (c : Nat) (hl : b.recs.length ≤ maxLen) :
    Calls Tryd.prog 67 #[.agg #[.int .i64 b.base, .int .i64 b.epoch, .int .i64 b.pid, .int .i64 b.pidEpoch, .int .i64 b.seq, .slice s b.recs.length c]] w fun e w' => e = .returned (.bool (overB b)) ∧ Below w.heap.size w w' := by
  unfold maxLen at hl
  have HO : Hid (overB b = (decide (1000000000 - ((b.recs.length : Int) - 1) < b.base) || decide (1000000 - ((b.recs.length : Int) - 1) < b.seq))) := rfl
  obtain ⟨a0, a1, a2, a3, a4, rs⟩ := b
  simp only at *
  by_cases h1 : 1000000000 - ((rs.length : Int) - 1) < a0
  · go_enter Tryd.func67, Tryd.ntmps67
    go_wp2
    go_ret
    exact ⟨ret_bool (by rw [HO.out]; simp [h1]), (Below.refl _ _).alloc (Nat.le_refl _) _⟩
  · by_cases h2 : 1000000 - ((rs.length : Int) - 1) < a4
    · go_enter Tryd.func67, Tryd.ntmps67
      go_wp2
      go_ret
      exact ⟨ret_bool (by rw [HO.out]; simp [h2]), (Below.refl _ _).alloc (Nat.le_refl _) _⟩
    · go_enter Tryd.func67, Tryd.ntmps67
      go_wp2
      go_ret
      exact ⟨ret_bool (by rw [HO.out]; simp [h1, h2]), (Below.refl _ _).alloc (Nat.le_refl _) _⟩

theorem ix0 (a0 a1 a2 a3 a4 : Int) (w : World) : (Instr.index 106 (.agg #[.int .i64 a0, .int .i64 a1, .int .i64 a2, .int .i64 a3, .int .i64 a4]) (.int .i64 0)).run Tryd.prog w = .ok (.int .i64 a0) w := by kernel_rfl
theorem ix1 (a0 a1 a2 a3 a4 : Int) (w : World) : (Instr.index 106 (.agg #[.int .i64 a0, .int .i64 a1, .int .i64 a2, .int .i64 a3, .int .i64 a4]) (.int .i64 1)).run Tryd.prog w = .ok (.int .i64 a1) w := by kernel_rfl
theorem ix2 (a0 a1 a2 a3 a4 : Int) (w : World) : (Instr.index 106 (.agg #[.int .i64 a0, .int .i64 a1, .int .i64 a2, .int .i64 a3, .int .i64 a4]) (.int .i64 2)).run Tryd.prog w = .ok (.int .i64 a2) w := by kernel_rfl
theorem ix3 (a0 a1 a2 a3 a4 : Int) (w : World) : (Instr.index 106 (.agg #[.int .i64 a0, .int .i64 a1, .int .i64 a2, .int .i64 a3, .int .i64 a4]) (.int .i64 3)).run Tryd.prog w = .ok (.int .i64 a3) w := by kernel_rfl
theorem ix4 (a0 a1 a2 a3 a4 : Int) (w : World) : (Instr.index 106 (.agg #[.int .i64 a0, .int .i64 a1, .int .i64 a2, .int .i64 a3, .int .i64 a4]) (.int .i64 4)).run Tryd.prog w = .ok (.int .i64 a4) w := by kernel_rfl
theorem index70 (a0 a1 a2 a3 a4 : Int) (k : Nat) (hk : k < 5) (w : World) : (Instr.index 106 (.agg #[.int .i64 a0, .int .i64 a1, .int .i64 a2, .int .i64 a3, .int .i64 a4]) (.int .i64 (k : Int))).run Tryd.prog w = .ok (.int .i64 ([a0, a1, a2, a3, a4].getD k 0)) w := by
  match k, hk with
  | 0, _ => exact ix0 a0 a1 a2 a3 a4 w
  | 1, _ => exact ix1 a0 a1 a2 a3 a4 w
  | 2, _ => exact ix2 a0 a1 a2 a3 a4 w
  | 3, _ => exact ix3 a0 a1 a2 a3 a4 w
  | 4, _ => exact ix4 a0 a1 a2 a3 a4 w

theorem box_cell {w w1 : World} {cs : Array Value} {T : TypeId} (hb : Below (w.alloc (.cells cs T)).heap.size (w.alloc (.cells cs T)) w1) (j : Nat) (u : Value) (hu : cs[j]? = some u) : w1.cell? ⟨w.heap.size, j, none⟩ = some u := by
  have h1 : w1.cell? ⟨w.heap.size, j, none⟩ = (w.alloc (.cells cs T)).cell? ⟨w.heap.size, j, none⟩ := hb.cell (p := ⟨w.heap.size, j, none⟩) (by simp)
  rw [h1]
  exact cell_new rfl hu
theorem box_below {w w1 : World} {o : Obj} (hb : Below (w.alloc o).heap.size (w.alloc o) w1) : Below w.heap.size w w1 := ((Below.refl _ w).alloc (Nat.le_refl _) o).trans (hb.mono (by simp))

def okN (k : Nat) (n : Int) : Prop := 0 ≤ n ∧ (0 < k → n ≤ 1000000000)
theorem numsB_no (b : Bat) (k : Nat) (hk : k < 5) (h : ¬ okN k ((numsOf b).getD k 0)) : numsB b = false := by
  rw [Bool.eq_false_iff]
  intro hb
  simp only [numsB, Bool.and_eq_true, decide_eq_true_eq, inB_iff] at hb
  obtain ⟨⟨⟨⟨⟨e1, e2⟩, e3⟩, e4⟩, e5⟩, _⟩ := hb
  apply h
  unfold okN numsOf
  match k, hk with
  | 0, _ => simp; omega
  | 1, _ => simp; omega
  | 2, _ => simp; omega
  | 3, _ => simp; omega
  | 4, _ => simp; omega
theorem numsB_yes (b : Bat) (h : ∀ k, k < 5 → okN k ((numsOf b).getD k 0)) : numsB b = (!(b.pid == 0) || (b.pidEpoch == 0 && b.seq == 0)) := by
  have g0 := h 0 (by omega)
  have g1 := h 1 (by omega)
  have g2 := h 2 (by omega)
  have g3 := h 3 (by omega)
  have g4 := h 4 (by omega)
  simp [okN, numsOf] at g0 g1 g2 g3 g4
  have e0 : decide (0 ≤ b.base) = true := by simp; omega
  have e1 := (inB_iff b.epoch).2 g1
  have e2 := (inB_iff b.pid).2 g2
  have e3 := (inB_iff b.pidEpoch).2 g3
  have e4 := (inB_iff b.seq).2 g4
  simp only [numsB, e0, e1, e2, e3, e4, Bool.true_and]

set_option maxHeartbeats 800000 in
theorem rightNums_any {w : World} (b : Bat) (s : Option Addr) (n c : Nat) (hi : b.ints) :
    Calls Tryd.prog 64 #[.agg #[.int .i64 b.base, .int .i64 b.epoch, .int .i64 b.pid, .int .i64 b.pidEpoch, .int .i64 b.seq, .slice s n c]] w fun e w' => e = .returned (.bool (numsB b)) ∧ Below w.heap.size w w' := by
  have hno := hid (numsB_no b)
  have hyes := hid (numsB_yes b)
  obtain ⟨A, hA⟩ : ∃ A : List Int, A = numsOf b := ⟨_, rfl⟩
  have HX : Hid (∀ (k : Nat), k < 5 → ∀ w, (Instr.index 106 (.agg #[.int .i64 b.base, .int .i64 b.epoch, .int .i64 b.pid, .int .i64 b.pidEpoch, .int .i64 b.seq]) (.int .i64 (k : Int))).run Tryd.prog w = .ok (.int .i64 (A.getD k 0)) w) := fun k hk w => by
    rw [hA]; exact index70 _ _ _ _ _ k hk w
  rw [← hA] at hno hyes
  clear hA hi
  generalize numsB b = R at *
  obtain ⟨a0, a1, a2, a3, a4, rs⟩ := b
  simp only at *
  go_enter Tryd.func64, Tryd.ntmps64
  go_wp2_with (go_at_call 83; refine (numbers_any _ _ _ _ _ _ _ _ _).mono ?_; rintro e w1 ⟨rfl, hb1⟩)
  have c2 := box_cell hb1 2 _ rfl
  have c3 := box_cell hb1 3 _ rfl
  have c4 := box_cell hb1 4 _ rfl
  have HB := hid (box_below hb1)
  clear hb1
  go_loop [7] (fun i => ∃ k : Nat, k ≤ 5 ∧ i = .int .i64 k ∧ Hid (∀ j, j < k → okN j (A.getD j 0))) (fun i => 5 - (intOf i).toNat)
  case atStart => exact ⟨0, by omega, rfl, fun j hj => by omega⟩
  case round =>
    obtain ⟨k, hk, rfl, HD⟩ := hrel
    by_cases hlt : k < 5
    · have hlt' : (k : Int) < 5 := by omega
      have hX := HX.out k hlt
      have hNO := hid (hno.out k hlt)
      have HS : Hid (okN k (A.getD k 0) → ∀ j, j < k + 1 → okN j (A.getD j 0)) := fun h j hj => by
        rcases Nat.lt_or_ge j k with h1 | h1
        · exact HD.out j h1
        · have : j = k := by omega
          subst this; exact h
      generalize A.getD k 0 = N at *
      by_cases h1 : N < 0
      · have HF : Hid (R = false) := hNO.out (fun h => by have := h.1; omega)
        go_wp2
        go_ret
        exact ⟨ret_bool HF.out.symm, HB.out⟩
      · by_cases h0 : 0 < k
        · have h0' : 0 < (k : Int) := by omega
          by_cases h2 : 1000000000 < N
          · have HF : Hid (R = false) := hNO.out (fun h => by have := h.2 h0; omega)
            go_wp2
            go_ret
            exact ⟨ret_bool HF.out.symm, HB.out⟩
          · have HF := hid (HS.out ⟨by omega, fun _ => by omega⟩)
            go_wp2
            go_round
            case rel => exact ⟨k + 1, by omega, by go_num, HF⟩
            case measure => simp [intOf]; omega
        · have h0' : ¬ 0 < (k : Int) := by omega
          have HF := hid (HS.out ⟨by omega, fun h => by omega⟩)
          clear h0
          go_wp2
          go_round
          case rel => exact ⟨k + 1, by omega, by go_num, HF⟩
          case measure => simp [intOf]; omega
    · have hlt' : ¬ (k : Int) < 5 := by omega
      have HF := hid (hyes.out (fun j hj => HD.out j (by omega)))
      by_cases p1 : a2 = 0
      · have p1' : (a2 == 0) = true := by simp [p1]
        have p1n : (a2 != 0) = false := by simp [p1]
        by_cases p2 : a3 = 0
        · have p2' : (a3 == 0) = true := by simp [p2]
          by_cases p3 : a4 = 0
          · have p3' : (a4 == 0) = true := by simp [p3]
            have HG := hid HF.out
            rw [p1', p2', p3'] at HG
            clear p1 p2 p3
            go_wp2
            go_ret
            exact ⟨ret_bool (by rw [HG.out]; rfl), HB.out⟩
          · have p3' : (a4 == 0) = false := by simp [p3]
            have HG := hid HF.out
            rw [p1', p2', p3'] at HG
            clear p1 p2 p3
            go_wp2
            go_ret
            exact ⟨ret_bool (by rw [HG.out]; rfl), HB.out⟩
        · have p2' : (a3 == 0) = false := by simp [p2]
          have HG := hid HF.out
          rw [p1', p2'] at HG
          clear p1 p2
          go_wp2
          go_ret
          exact ⟨ret_bool (by rw [HG.out]; rfl), HB.out⟩
      · have p1' : (a2 == 0) = false := by simp [p1]
        have p1n : (a2 != 0) = true := by simp [p1]
        have HG := hid HF.out
        rw [p1'] at HG
        clear p1
        go_wp2
        go_ret
        exact ⟨ret_bool (by rw [HG.out]; rfl), HB.out⟩
end Go.Proofs.YtocdlaoklagdoaaDoor
