/- A message's numbers, and which of its parts are there. -/
import Derived.Test.YtocdlaoklagdoaaDoorG4
import Derived.Shelf.Spec.TrailingZeros
import Derived.Deep.RegionHeld3
namespace Go.Proofs.YtocdlaoklagdoaaDoor
open Go.RowKit Go.Maps
set_option linter.unusedSimpArgs false
set_option linter.unusedVariables false
set_option maxRecDepth 100000

/-- The cells of a box of 21. -/
theorem mcells {W : World} {q : Nat} {T : TypeId} {u0 u1 u2 u3 u4 u5 u6 u7 u8 u9 u10 u11 u12 u13 u14 u15 u16 u17 u18 u19 u20 : Value} (h : W.heap[q]? = some (.cells #[u0, u1, u2, u3, u4, u5, u6, u7, u8, u9, u10, u11, u12, u13, u14, u15, u16, u17, u18, u19, u20] T)) :
    W.cell? ⟨q, 0, none⟩ = some u0 ∧ W.cell? ⟨q, 1, none⟩ = some u1 ∧ W.cell? ⟨q, 2, none⟩ = some u2 ∧ W.cell? ⟨q, 3, none⟩ = some u3 ∧ W.cell? ⟨q, 4, none⟩ = some u4 ∧ W.cell? ⟨q, 5, none⟩ = some u5 ∧ W.cell? ⟨q, 6, none⟩ = some u6 ∧ W.cell? ⟨q, 7, none⟩ = some u7 ∧ W.cell? ⟨q, 8, none⟩ = some u8 ∧ W.cell? ⟨q, 9, none⟩ = some u9 ∧ W.cell? ⟨q, 10, none⟩ = some u10 ∧ W.cell? ⟨q, 11, none⟩ = some u11 ∧ W.cell? ⟨q, 12, none⟩ = some u12 ∧ W.cell? ⟨q, 13, none⟩ = some u13 ∧ W.cell? ⟨q, 14, none⟩ = some u14 ∧ W.cell? ⟨q, 15, none⟩ = some u15 ∧ W.cell? ⟨q, 16, none⟩ = some u16 ∧ W.cell? ⟨q, 17, none⟩ = some u17 ∧ W.cell? ⟨q, 18, none⟩ = some u18 ∧ W.cell? ⟨q, 19, none⟩ = some u19 ∧ W.cell? ⟨q, 20, none⟩ = some u20 :=
  ⟨cell_blk h 0 u0 rfl, cell_blk h 1 u1 rfl, cell_blk h 2 u2 rfl, cell_blk h 3 u3 rfl, cell_blk h 4 u4 rfl, cell_blk h 5 u5 rfl, cell_blk h 6 u6 rfl, cell_blk h 7 u7 rfl, cell_blk h 8 u8 rfl, cell_blk h 9 u9 rfl, cell_blk h 10 u10 rfl, cell_blk h 11 u11 rfl, cell_blk h 12 u12 rfl, cell_blk h 13 u13 rfl, cell_blk h 14 u14 rfl, cell_blk h 15 u15 rfl, cell_blk h 16 u16 rfl, cell_blk h 17 u17 rfl, cell_blk h 18 u18 rfl, cell_blk h 19 u19 rfl, cell_blk h 20 u20 rfl⟩

theorem load21 {W : World} {q : Nat} {cs : Array Value} {T : TypeId} (h : W.heap[q]? = some (.cells cs T)) (hn : cs.size = 21) : (loadCellsFrom ⟨q, 0, none⟩ 0 21 #[]).run Tryd.prog W = .ok cs W := by
  rw [← hn]
  have := run_loadCells_list (P := Tryd.prog) W ⟨q, 0, none⟩ cs.toList (fun j v hv => by
    have hadd : (⟨q, 0, none⟩ : Addr).add j = ⟨q, j, none⟩ := by unfold Addr.add; split <;> simp_all
    rw [hadd, cell_of_row _ _ j cs T (0, 0) h]
    simpa using hv)
  simpa [loadCells] using this
theorem size27 : (Tryd.prog.info? 27).map (·.size) = some 21 := by kernel_rfl
theorem laid21 (w : World) (cs : Array Value) (hn : cs.size = 21) : (loadCellsFrom ⟨w.heap.size, 0, none⟩ 0 21 #[]).run Tryd.prog (w.alloc (.cells cs 27)) = .ok cs (w.alloc (.cells cs 27)) := load21 (heap_alloc_new w _) hn

set_option maxHeartbeats 1600000 in
theorem numbersOf_any (k n0 n1 n2 n3 n4 n5 n6 n7 n8 n9 n10 n11 n12 n13 e : Int) (s16 s17 : ByteArray) (a18 a19 a20 : Option Addr) (l18 c18 l19 c19 l20 c20 : Nat) (w : World) :
    Calls Tryd.prog 63 #[.agg #[.int .i64 k, .int .i64 n0, .int .i64 n1, .int .i64 n2, .int .i64 n3, .int .i64 n4, .int .i64 n5, .int .i64 n6, .int .i64 n7, .int .i64 n8, .int .i64 n9, .int .i64 n10, .int .i64 n11, .int .i64 n12, .int .i64 n13, .int .i64 e, .string s16, .string s17, .slice a18 l18 c18, .slice a19 l19 c19, .slice a20 l20 c20]] w fun e w' => e = .returned (.agg #[.int .i64 n0, .int .i64 n1, .int .i64 n2, .int .i64 n3, .int .i64 n4, .int .i64 n5, .int .i64 n6, .int .i64 n7, .int .i64 n8, .int .i64 n9, .int .i64 n10, .int .i64 n11, .int .i64 n12, .int .i64 n13]) ∧ Below w.heap.size w w' := by
  go_enter Tryd.func63, Tryd.ntmps63
  go_wp2
  refine bodyPost_ret (v := .agg #[.int .i64 n0, .int .i64 n1, .int .i64 n2, .int .i64 n3, .int .i64 n4, .int .i64 n5, .int .i64 n6, .int .i64 n7, .int .i64 n8, .int .i64 n9, .int .i64 n10, .int .i64 n11, .int .i64 n12, .int .i64 n13]) (by simp [results, Tryd.results63, go_sem]) rfl ⟨rfl, ?_⟩
  exact ((Below.refl _ _).alloc (Nat.le_refl _) _).alloc (by simp) _

theorem jx0 (n0 n1 n2 n3 n4 n5 n6 n7 n8 n9 n10 n11 n12 n13 : Int) (w : World) : (Instr.index 83 (.agg #[.int .i64 n0, .int .i64 n1, .int .i64 n2, .int .i64 n3, .int .i64 n4, .int .i64 n5, .int .i64 n6, .int .i64 n7, .int .i64 n8, .int .i64 n9, .int .i64 n10, .int .i64 n11, .int .i64 n12, .int .i64 n13]) (.int .i64 0)).run Tryd.prog w = .ok (.int .i64 n0) w := by kernel_rfl
theorem jx1 (n0 n1 n2 n3 n4 n5 n6 n7 n8 n9 n10 n11 n12 n13 : Int) (w : World) : (Instr.index 83 (.agg #[.int .i64 n0, .int .i64 n1, .int .i64 n2, .int .i64 n3, .int .i64 n4, .int .i64 n5, .int .i64 n6, .int .i64 n7, .int .i64 n8, .int .i64 n9, .int .i64 n10, .int .i64 n11, .int .i64 n12, .int .i64 n13]) (.int .i64 1)).run Tryd.prog w = .ok (.int .i64 n1) w := by kernel_rfl
theorem jx2 (n0 n1 n2 n3 n4 n5 n6 n7 n8 n9 n10 n11 n12 n13 : Int) (w : World) : (Instr.index 83 (.agg #[.int .i64 n0, .int .i64 n1, .int .i64 n2, .int .i64 n3, .int .i64 n4, .int .i64 n5, .int .i64 n6, .int .i64 n7, .int .i64 n8, .int .i64 n9, .int .i64 n10, .int .i64 n11, .int .i64 n12, .int .i64 n13]) (.int .i64 2)).run Tryd.prog w = .ok (.int .i64 n2) w := by kernel_rfl
theorem jx3 (n0 n1 n2 n3 n4 n5 n6 n7 n8 n9 n10 n11 n12 n13 : Int) (w : World) : (Instr.index 83 (.agg #[.int .i64 n0, .int .i64 n1, .int .i64 n2, .int .i64 n3, .int .i64 n4, .int .i64 n5, .int .i64 n6, .int .i64 n7, .int .i64 n8, .int .i64 n9, .int .i64 n10, .int .i64 n11, .int .i64 n12, .int .i64 n13]) (.int .i64 3)).run Tryd.prog w = .ok (.int .i64 n3) w := by kernel_rfl
theorem jx4 (n0 n1 n2 n3 n4 n5 n6 n7 n8 n9 n10 n11 n12 n13 : Int) (w : World) : (Instr.index 83 (.agg #[.int .i64 n0, .int .i64 n1, .int .i64 n2, .int .i64 n3, .int .i64 n4, .int .i64 n5, .int .i64 n6, .int .i64 n7, .int .i64 n8, .int .i64 n9, .int .i64 n10, .int .i64 n11, .int .i64 n12, .int .i64 n13]) (.int .i64 4)).run Tryd.prog w = .ok (.int .i64 n4) w := by kernel_rfl
theorem jx5 (n0 n1 n2 n3 n4 n5 n6 n7 n8 n9 n10 n11 n12 n13 : Int) (w : World) : (Instr.index 83 (.agg #[.int .i64 n0, .int .i64 n1, .int .i64 n2, .int .i64 n3, .int .i64 n4, .int .i64 n5, .int .i64 n6, .int .i64 n7, .int .i64 n8, .int .i64 n9, .int .i64 n10, .int .i64 n11, .int .i64 n12, .int .i64 n13]) (.int .i64 5)).run Tryd.prog w = .ok (.int .i64 n5) w := by kernel_rfl
theorem jx6 (n0 n1 n2 n3 n4 n5 n6 n7 n8 n9 n10 n11 n12 n13 : Int) (w : World) : (Instr.index 83 (.agg #[.int .i64 n0, .int .i64 n1, .int .i64 n2, .int .i64 n3, .int .i64 n4, .int .i64 n5, .int .i64 n6, .int .i64 n7, .int .i64 n8, .int .i64 n9, .int .i64 n10, .int .i64 n11, .int .i64 n12, .int .i64 n13]) (.int .i64 6)).run Tryd.prog w = .ok (.int .i64 n6) w := by kernel_rfl
theorem jx7 (n0 n1 n2 n3 n4 n5 n6 n7 n8 n9 n10 n11 n12 n13 : Int) (w : World) : (Instr.index 83 (.agg #[.int .i64 n0, .int .i64 n1, .int .i64 n2, .int .i64 n3, .int .i64 n4, .int .i64 n5, .int .i64 n6, .int .i64 n7, .int .i64 n8, .int .i64 n9, .int .i64 n10, .int .i64 n11, .int .i64 n12, .int .i64 n13]) (.int .i64 7)).run Tryd.prog w = .ok (.int .i64 n7) w := by kernel_rfl
theorem jx8 (n0 n1 n2 n3 n4 n5 n6 n7 n8 n9 n10 n11 n12 n13 : Int) (w : World) : (Instr.index 83 (.agg #[.int .i64 n0, .int .i64 n1, .int .i64 n2, .int .i64 n3, .int .i64 n4, .int .i64 n5, .int .i64 n6, .int .i64 n7, .int .i64 n8, .int .i64 n9, .int .i64 n10, .int .i64 n11, .int .i64 n12, .int .i64 n13]) (.int .i64 8)).run Tryd.prog w = .ok (.int .i64 n8) w := by kernel_rfl
theorem jx9 (n0 n1 n2 n3 n4 n5 n6 n7 n8 n9 n10 n11 n12 n13 : Int) (w : World) : (Instr.index 83 (.agg #[.int .i64 n0, .int .i64 n1, .int .i64 n2, .int .i64 n3, .int .i64 n4, .int .i64 n5, .int .i64 n6, .int .i64 n7, .int .i64 n8, .int .i64 n9, .int .i64 n10, .int .i64 n11, .int .i64 n12, .int .i64 n13]) (.int .i64 9)).run Tryd.prog w = .ok (.int .i64 n9) w := by kernel_rfl
theorem jx10 (n0 n1 n2 n3 n4 n5 n6 n7 n8 n9 n10 n11 n12 n13 : Int) (w : World) : (Instr.index 83 (.agg #[.int .i64 n0, .int .i64 n1, .int .i64 n2, .int .i64 n3, .int .i64 n4, .int .i64 n5, .int .i64 n6, .int .i64 n7, .int .i64 n8, .int .i64 n9, .int .i64 n10, .int .i64 n11, .int .i64 n12, .int .i64 n13]) (.int .i64 10)).run Tryd.prog w = .ok (.int .i64 n10) w := by kernel_rfl
theorem jx11 (n0 n1 n2 n3 n4 n5 n6 n7 n8 n9 n10 n11 n12 n13 : Int) (w : World) : (Instr.index 83 (.agg #[.int .i64 n0, .int .i64 n1, .int .i64 n2, .int .i64 n3, .int .i64 n4, .int .i64 n5, .int .i64 n6, .int .i64 n7, .int .i64 n8, .int .i64 n9, .int .i64 n10, .int .i64 n11, .int .i64 n12, .int .i64 n13]) (.int .i64 11)).run Tryd.prog w = .ok (.int .i64 n11) w := by kernel_rfl
theorem jx12 (n0 n1 n2 n3 n4 n5 n6 n7 n8 n9 n10 n11 n12 n13 : Int) (w : World) : (Instr.index 83 (.agg #[.int .i64 n0, .int .i64 n1, .int .i64 n2, .int .i64 n3, .int .i64 n4, .int .i64 n5, .int .i64 n6, .int .i64 n7, .int .i64 n8, .int .i64 n9, .int .i64 n10, .int .i64 n11, .int .i64 n12, .int .i64 n13]) (.int .i64 12)).run Tryd.prog w = .ok (.int .i64 n12) w := by kernel_rfl
theorem jx13 (n0 n1 n2 n3 n4 n5 n6 n7 n8 n9 n10 n11 n12 n13 : Int) (w : World) : (Instr.index 83 (.agg #[.int .i64 n0, .int .i64 n1, .int .i64 n2, .int .i64 n3, .int .i64 n4, .int .i64 n5, .int .i64 n6, .int .i64 n7, .int .i64 n8, .int .i64 n9, .int .i64 n10, .int .i64 n11, .int .i64 n12, .int .i64 n13]) (.int .i64 13)).run Tryd.prog w = .ok (.int .i64 n13) w := by kernel_rfl
theorem index83 (m : Msg) (k : Nat) (hk : k < 14) (w : World) : (Instr.index 83 (.agg #[.int .i64 m.n0, .int .i64 m.n1, .int .i64 m.n2, .int .i64 m.n3, .int .i64 m.n4, .int .i64 m.n5, .int .i64 m.n6, .int .i64 m.n7, .int .i64 m.n8, .int .i64 m.n9, .int .i64 m.n10, .int .i64 m.n11, .int .i64 m.n12, .int .i64 m.n13]) (.int .i64 (k : Int))).run Tryd.prog w = .ok (.int .i64 ((nums m).getD k 0)) w := by
  match k, hk with
  | 0, _ => exact jx0 _ _ _ _ _ _ _ _ _ _ _ _ _ _ w
  | 1, _ => exact jx1 _ _ _ _ _ _ _ _ _ _ _ _ _ _ w
  | 2, _ => exact jx2 _ _ _ _ _ _ _ _ _ _ _ _ _ _ w
  | 3, _ => exact jx3 _ _ _ _ _ _ _ _ _ _ _ _ _ _ w
  | 4, _ => exact jx4 _ _ _ _ _ _ _ _ _ _ _ _ _ _ w
  | 5, _ => exact jx5 _ _ _ _ _ _ _ _ _ _ _ _ _ _ w
  | 6, _ => exact jx6 _ _ _ _ _ _ _ _ _ _ _ _ _ _ w
  | 7, _ => exact jx7 _ _ _ _ _ _ _ _ _ _ _ _ _ _ w
  | 8, _ => exact jx8 _ _ _ _ _ _ _ _ _ _ _ _ _ _ w
  | 9, _ => exact jx9 _ _ _ _ _ _ _ _ _ _ _ _ _ _ w
  | 10, _ => exact jx10 _ _ _ _ _ _ _ _ _ _ _ _ _ _ w
  | 11, _ => exact jx11 _ _ _ _ _ _ _ _ _ _ _ _ _ _ w
  | 12, _ => exact jx12 _ _ _ _ _ _ _ _ _ _ _ _ _ _ w
  | 13, _ => exact jx13 _ _ _ _ _ _ _ _ _ _ _ _ _ _ w

theorem bit_any (i : Nat) (hi : i < 20) (b : Bool) (w : World) : Calls Tryd.prog 69 #[.int .i64 (i : Int), .bool b] w fun e w' => e = .returned (.int .i64 (bitV i b : Nat)) ∧ w' = w := by
  cases b with
  | false =>
    go_enter Tryd.func69, Tryd.ntmps69
    go_wp2
    go_ret
    exact ⟨rfl, rfl⟩
  | true =>
    have hi' : i = 0 ∨ i = 1 ∨ i = 2 ∨ i = 3 ∨ i = 4 ∨ i = 5 ∨ i = 6 ∨ i = 7 ∨ i = 8 ∨ i = 9 ∨ i = 10 ∨ i = 11 ∨ i = 12 ∨ i = 13 ∨ i = 14 ∨ i = 15 ∨ i = 16 ∨ i = 17 ∨ i = 18 ∨ i = 19 := by omega
    clear hi
    rcases hi' with rfl | rfl | rfl | rfl | rfl | rfl | rfl | rfl | rfl | rfl | rfl | rfl | rfl | rfl | rfl | rfl | rfl | rfl | rfl | rfl
    all_goals
      go_enter Tryd.func69, Tryd.ntmps69
      go_wp2
      go_ret
      exact ⟨rfl, rfl⟩

theorem or_bit (x i : Nat) (b : Bool) (hx : x < 2 ^ i) (hi : i < 60) : bits .or .i64 (x : Int) ((bitV i b : Nat) : Int) = ((x + bitV i b : Nat) : Int) := by
  have h60 : 2 ^ i ≤ 2 ^ 59 := Nat.pow_le_pow_right (by omega) (by omega)
  have hb : bitV i b ≤ 2 ^ i := by cases b <;> simp [bitV]
  have h59 : (2 : Nat) ^ 59 = 576460752303423488 := by decide
  rw [i64_or_nat x (bitV i b) (by omega) (by omega)]
  congr 1
  cases b with
  | false => simp [bitV]
  | true =>
    have := nat_join i (2 ^ i) x (by simp) hx
    simp only [bitV, if_true]
    rw [Nat.or_comm, this, Nat.add_comm]

theorem there_take (m : Msg) (k : Nat) (hk : k < 14) : (there m).take (k + 1) = (there m).take k ++ [decide ((nums m).getD k 0 ≠ 0)] := by
  have hl : k < (there m).length := by rw [there_length]; omega
  rw [List.take_succ_eq_append_getElem hl]
  congr 2
  match k, hk with
  | 0, _ => rfl
  | 1, _ => rfl
  | 2, _ => rfl
  | 3, _ => rfl
  | 4, _ => rfl
  | 5, _ => rfl
  | 6, _ => rfl
  | 7, _ => rfl
  | 8, _ => rfl
  | 9, _ => rfl
  | 10, _ => rfl
  | 11, _ => rfl
  | 12, _ => rfl
  | 13, _ => rfl

theorem bne_decide (n : Int) : (n != 0) = decide (n ≠ 0) := by
  by_cases h : n = 0 <;> simp [h]
theorem sum_is (m : Msg) : sumL m = bitsOf ((there m).take 14) + bitV 14 (decide (m.err ≠ 0)) + bitV 15 (decide (m.name ≠ [])) + bitV 16 (decide (m.text ≠ [])) + bitV 17 (decide (0 < m.bats.length)) + bitV 18 (decide (0 < m.ents.length)) + bitV 19 (decide (0 < m.ints.length)) := by
  have h14 : ((there m).take 14).length = 14 := rfl
  have e : there m = ((((((there m).take 14 ++ [decide (m.err ≠ 0)]) ++ [decide (m.name ≠ [])]) ++ [decide (m.text ≠ [])]) ++ [decide (0 < m.bats.length)]) ++ [decide (0 < m.ents.length)]) ++ [decide (0 < m.ints.length)] := rfl
  have e2 := congrArg bitsOf e
  rw [bitsOf_snoc, bitsOf_snoc, bitsOf_snoc, bitsOf_snoc, bitsOf_snoc, bitsOf_snoc] at e2
  simp only [List.length_append, h14, List.length_cons, List.length_nil] at e2
  exact e2

def tzRen : Go.Shelf.Ren := ⟨fun | 27 => 50 | 28 => 76 | 29 => 77 | n => n, fun | 22 => 78 | 25 => 61 | 27 => 53 | 53 => 109 | 54 => 110 | n => n, fun | n => n⟩
theorem tzLaid : Go.Proofs.Lays7.n27 Tryd.prog tzRen := {
  mixed := by kernel_rfl
  f27 := Tryd.func50.trans (congrArg some (by kernel_rfl))
  f28 := Tryd.func76.trans (congrArg some (by kernel_rfl))
  f29 := Tryd.func77.trans (congrArg some (by kernel_rfl))
  t0 := by kernel_rfl
  a0 := fun w => by kernel_rfl
  z0 := fun w => by kernel_rfl
  v0 := fun w => by kernel_rfl
  i0 := by kernel_rfl
  t3 := by kernel_rfl
  a3 := fun w => by kernel_rfl
  z3 := fun w => by kernel_rfl
  v3 := fun w => by kernel_rfl
  i3 := by kernel_rfl
  t4 := by kernel_rfl
  a4 := fun w => by kernel_rfl
  z4 := fun w => by kernel_rfl
  v4 := fun w => by kernel_rfl
  i4 := by kernel_rfl
  t5 := by kernel_rfl
  a5 := fun w => by kernel_rfl
  z5 := fun w => by kernel_rfl
  v5 := fun w => by kernel_rfl
  i5 := by kernel_rfl
  t22 := by kernel_rfl
  a22 := fun w => by kernel_rfl
  z22 := fun w => by kernel_rfl
  v22 := fun w => by kernel_rfl
  i22 := by kernel_rfl
  t25 := by kernel_rfl
  a25 := fun w => by kernel_rfl
  z25 := fun w => by kernel_rfl
  v25 := fun w => by kernel_rfl
  i25 := by kernel_rfl
  t27 := by kernel_rfl
  a27 := fun w => by kernel_rfl
  z27 := fun w => by kernel_rfl
  v27 := fun w => by kernel_rfl
  i27 := by kernel_rfl
  t53 := by kernel_rfl
  a53 := fun w => by kernel_rfl
  z53 := fun w => by kernel_rfl
  v53 := fun w => by kernel_rfl
  i53 := by kernel_rfl
  t54 := by kernel_rfl
  a54 := fun w => by kernel_rfl
  z54 := fun w => by kernel_rfl
  g0 := by kernel_rfl
  g1 := by kernel_rfl }
/-- The library's table lies where the program's text lays it. -/
def Tab (w : World) : Prop := TabAt 1 Lib.deBruijn64tab w ∧ 2 ≤ w.heap.size
theorem Tab.under {w w' : World} {B : Nat} (h : Tab w) (hb : Below B w w') (hB : 2 ≤ B) : Tab w' :=
  And.intro (fun j hj => (hb.cell (p := ⟨1, j, none⟩) (by show 1 < B; omega)).trans (h.1 j hj)) (Nat.le_trans h.2 hb.size)
theorem tz_any (x : Nat) (hx : x < 18446744073709551616) (w : World) (hT : Tab w) : Calls Tryd.prog 50 #[.int .u64 x] w fun e w' => e = .returned (.int .i64 (Lib.ctz 64 x : Nat)) ∧ w' = w :=
  Any7.bits_TrailingZeros tzLaid x hx w (fun _ => hT.1)
/-- The first part that is there. -/
theorem first_from (m : Msg) : fromL (Lib.ctz 64 (sumL m)) m = partsL m ∧ Lib.ctz 64 (sumL m) ≤ 64 := by
  have hs := sumL_lt m
  by_cases h0 : sumL m = 0
  · have e : Lib.ctz 64 (sumL m) = 64 := by unfold Lib.ctz; rw [if_pos h0]
    rw [e]
    have hz : ∀ i, i < 20 → (there m).getD i false = false := fun i hi => by
      have h1 := bitsOf_bit (there m) i
      rw [show bitsOf (there m) = 0 from h0] at h1
      cases hb : (there m).getD i false with
      | false => rfl
      | true => rw [hb] at h1; simp [bitV] at h1
    rcases first_parts m 20 hz (Nat.le_refl _) with h | ⟨_, h⟩
    · exact ⟨by rw [← h]; rfl, Nat.le_refl _⟩
    · exact ⟨by rw [h]; rfl, Nat.le_refl _⟩
  · obtain ⟨_, hk⟩ := Lib.lowest_bit 64 (sumL m) h0 (by omega)
    have e : Lib.ctz 64 (sumL m) = Lib.ctzFrom 64 (sumL m) := by unfold Lib.ctz; rw [if_neg h0]
    obtain ⟨j, hj, _⟩ := Lib.ctzFrom_spec 64 (sumL m) (by omega) (by omega)
    rw [← e] at hj
    generalize Lib.ctz 64 (sumL m) = k at *
    have hk20 : k < 20 := by
      rcases Nat.lt_or_ge k 20 with h | h
      · exact h
      · exfalso
        have h1 : 2 ^ 20 ≤ 2 ^ k := Nat.pow_le_pow_right (by omega) h
        have h2 : 2 ^ k * 1 ≤ 2 ^ k * (2 * j + 1) := Nat.mul_le_mul_left _ (by omega)
        have h3 : (2 : Nat) ^ 20 = 1048576 := by decide
        omega
    have hz : ∀ i, i < k → (there m).getD i false = false := fun i hi => by
      have h1 := bitsOf_bit (there m) i
      rw [show bitsOf (there m) = 2 ^ k * (2 * j + 1) from hj] at h1
      have h2 : 2 ^ k * (2 * j + 1) / 2 ^ i % 2 = 0 := by
        rw [show k = i + (k - i - 1 + 1) by omega, Nat.pow_add, Nat.pow_succ, Nat.mul_assoc, Nat.mul_div_cancel_left _ (Nat.pow_pos (by omega)), Nat.mul_comm (2 ^ (k - i - 1)) 2, Nat.mul_assoc, Nat.mul_mod_right]
      rw [h2] at h1
      cases hb : (there m).getD i false with
      | false => rfl
      | true => rw [hb] at h1; simp [bitV] at h1
    rcases first_parts m k hz (by omega) with h | ⟨h, _⟩
    · exact ⟨h, by omega⟩
    · omega
end Go.Proofs.YtocdlaoklagdoaaDoor
