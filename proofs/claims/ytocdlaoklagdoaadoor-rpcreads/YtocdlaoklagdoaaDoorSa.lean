/- Two messages that are one, without lists, are the same. -/
import Derived.Test.YtocdlaoklagdoaaDoorAn
namespace Go.Proofs.YtocdlaoklagdoaaDoor
open Go.RowKit Go.Maps
set_option linter.unusedSimpArgs false
set_option linter.unusedVariables false
set_option maxRecDepth 100000

/-- What same looks at: both boxes, both rows of numbers. -/
structure SmAt (w : World) (A N : Array Value) (W : World) : Prop where
  below : Below w.heap.size w W
  b0 : W.heap[w.heap.size]? = some (.cells A 27)
  b1 : W.heap[w.heap.size + 1]? = some (.cells A 27)
  r0 : W.heap[w.heap.size + 3]? = some (.cells N 3)
  r1 : W.heap[w.heap.size + 5]? = some (.cells N 3)
theorem SmAt.laid (w : World) (A N : Array Value) : SmAt w A N ((((((w.alloc (.cells A 27)).alloc (.cells A 27)).alloc (.cells A 27)).alloc (.cells N 3)).alloc (.cells A 27)).alloc (.cells N 3)) := by
  have hk : ∀ (W : World) (O : Obj) (j : Nat), j < W.heap.size → (W.alloc O).heap[j]? = W.heap[j]? := fun W O j h => Below.heap_alloc W O j h
  refine ⟨((((((Below.refl _ w).alloc (Nat.le_refl _) _).alloc (by simp <;> omega) _).alloc (by simp <;> omega) _).alloc (by simp <;> omega) _).alloc (by simp <;> omega) _).alloc (by simp <;> omega) _, ?_, ?_, ?_, ?_⟩
  · rw [hk _ _ _ (by simp <;> omega), hk _ _ _ (by simp <;> omega), hk _ _ _ (by simp <;> omega), hk _ _ _ (by simp <;> omega), hk _ _ _ (by simp <;> omega)]
    exact heap_alloc_new w _
  · rw [hk _ _ _ (by simp <;> omega), hk _ _ _ (by simp <;> omega), hk _ _ _ (by simp <;> omega), hk _ _ _ (by simp <;> omega)]
    exact heap_alloc2_new w _ _
  · rw [hk _ _ _ (by simp <;> omega), hk _ _ _ (by simp <;> omega)]
    have := heap_alloc_new (((w.alloc (.cells A 27)).alloc (.cells A 27)).alloc (.cells A 27)) (.cells N 3)
    have z : (((w.alloc (.cells A 27)).alloc (.cells A 27)).alloc (.cells A 27)).heap.size = w.heap.size + 3 := by simp
    rw [z] at this
    exact this
  · have := heap_alloc_new (((((w.alloc (.cells A 27)).alloc (.cells A 27)).alloc (.cells A 27)).alloc (.cells N 3)).alloc (.cells A 27)) (.cells N 3)
    have z : (((((w.alloc (.cells A 27)).alloc (.cells A 27)).alloc (.cells A 27)).alloc (.cells N 3)).alloc (.cells A 27)).heap.size = w.heap.size + 5 := by simp
    rw [z] at this
    exact this
theorem SmAt.drewN {w : World} {A N : Array Value} {W : World} (h : SmAt w A N W) (n : Nat) : SmAt w A N (W.drewN n) := ⟨below_drewN h.below n, h.b0, h.b1, h.r0, h.r1⟩

set_option maxHeartbeats 3200000 in
theorem same_none (k n0 n1 n2 n3 n4 n5 n6 n7 n8 n9 n10 n11 n12 n13 e : Int) (s16 s17 : ByteArray) (w : World) : Calls Tryd.prog 17 #[.agg #[.int .i64 k, .int .i64 n0, .int .i64 n1, .int .i64 n2, .int .i64 n3, .int .i64 n4, .int .i64 n5, .int .i64 n6, .int .i64 n7, .int .i64 n8, .int .i64 n9, .int .i64 n10, .int .i64 n11, .int .i64 n12, .int .i64 n13, .int .i64 e, .string s16, .string s17, .slice none 0 0, .slice none 0 0, .slice none 0 0], .agg #[.int .i64 k, .int .i64 n0, .int .i64 n1, .int .i64 n2, .int .i64 n3, .int .i64 n4, .int .i64 n5, .int .i64 n6, .int .i64 n7, .int .i64 n8, .int .i64 n9, .int .i64 n10, .int .i64 n11, .int .i64 n12, .int .i64 n13, .int .i64 e, .string s16, .string s17, .slice none 0 0, .slice none 0 0, .slice none 0 0]] w fun x w' => x = .returned (.bool true) ∧ Below w.heap.size w w' := by
  have H25 := hid (fun W => rnumbers_any k n0 n1 n2 n3 n4 n5 n6 n7 n8 n9 n10 n11 n12 n13 e s16 s17 none none none 0 0 0 0 0 0 W)
  have X0 : Hid (((w.alloc (.cells #[.int .i64 k, .int .i64 n0, .int .i64 n1, .int .i64 n2, .int .i64 n3, .int .i64 n4, .int .i64 n5, .int .i64 n6, .int .i64 n7, .int .i64 n8, .int .i64 n9, .int .i64 n10, .int .i64 n11, .int .i64 n12, .int .i64 n13, .int .i64 e, .string s16, .string s17, .slice none 0 0, .slice none 0 0, .slice none 0 0] 27)).alloc (.cells #[.int .i64 k, .int .i64 n0, .int .i64 n1, .int .i64 n2, .int .i64 n3, .int .i64 n4, .int .i64 n5, .int .i64 n6, .int .i64 n7, .int .i64 n8, .int .i64 n9, .int .i64 n10, .int .i64 n11, .int .i64 n12, .int .i64 n13, .int .i64 e, .string s16, .string s17, .slice none 0 0, .slice none 0 0, .slice none 0 0] 27)).heap[w.heap.size]? = some (.cells #[.int .i64 k, .int .i64 n0, .int .i64 n1, .int .i64 n2, .int .i64 n3, .int .i64 n4, .int .i64 n5, .int .i64 n6, .int .i64 n7, .int .i64 n8, .int .i64 n9, .int .i64 n10, .int .i64 n11, .int .i64 n12, .int .i64 n13, .int .i64 e, .string s16, .string s17, .slice none 0 0, .slice none 0 0, .slice none 0 0] 27)) := (Below.heap_alloc _ _ _ (by simp)).trans (heap_alloc_new w _)
  have X1 : Hid (((((w.alloc (.cells #[.int .i64 k, .int .i64 n0, .int .i64 n1, .int .i64 n2, .int .i64 n3, .int .i64 n4, .int .i64 n5, .int .i64 n6, .int .i64 n7, .int .i64 n8, .int .i64 n9, .int .i64 n10, .int .i64 n11, .int .i64 n12, .int .i64 n13, .int .i64 e, .string s16, .string s17, .slice none 0 0, .slice none 0 0, .slice none 0 0] 27)).alloc (.cells #[.int .i64 k, .int .i64 n0, .int .i64 n1, .int .i64 n2, .int .i64 n3, .int .i64 n4, .int .i64 n5, .int .i64 n6, .int .i64 n7, .int .i64 n8, .int .i64 n9, .int .i64 n10, .int .i64 n11, .int .i64 n12, .int .i64 n13, .int .i64 e, .string s16, .string s17, .slice none 0 0, .slice none 0 0, .slice none 0 0] 27)).alloc (.cells #[.int .i64 k, .int .i64 n0, .int .i64 n1, .int .i64 n2, .int .i64 n3, .int .i64 n4, .int .i64 n5, .int .i64 n6, .int .i64 n7, .int .i64 n8, .int .i64 n9, .int .i64 n10, .int .i64 n11, .int .i64 n12, .int .i64 n13, .int .i64 e, .string s16, .string s17, .slice none 0 0, .slice none 0 0, .slice none 0 0] 27)).alloc (.cells #[.int .i64 n0, .int .i64 n1, .int .i64 n2, .int .i64 n3, .int .i64 n4, .int .i64 n5, .int .i64 n6, .int .i64 n7, .int .i64 n8, .int .i64 n9, .int .i64 n10, .int .i64 n11, .int .i64 n12, .int .i64 n13] 3)).heap[w.heap.size + 1]? = some (.cells #[.int .i64 k, .int .i64 n0, .int .i64 n1, .int .i64 n2, .int .i64 n3, .int .i64 n4, .int .i64 n5, .int .i64 n6, .int .i64 n7, .int .i64 n8, .int .i64 n9, .int .i64 n10, .int .i64 n11, .int .i64 n12, .int .i64 n13, .int .i64 e, .string s16, .string s17, .slice none 0 0, .slice none 0 0, .slice none 0 0] 27)) := by
    show _ = _
    rw [Below.heap_alloc _ _ _ (by simp <;> omega), Below.heap_alloc _ _ _ (by simp <;> omega)]
    exact heap_alloc2_new w _ _
  have H0 := hid (SmAt.laid w #[.int .i64 k, .int .i64 n0, .int .i64 n1, .int .i64 n2, .int .i64 n3, .int .i64 n4, .int .i64 n5, .int .i64 n6, .int .i64 n7, .int .i64 n8, .int .i64 n9, .int .i64 n10, .int .i64 n11, .int .i64 n12, .int .i64 n13, .int .i64 e, .string s16, .string s17, .slice none 0 0, .slice none 0 0, .slice none 0 0] #[.int .i64 n0, .int .i64 n1, .int .i64 n2, .int .i64 n3, .int .i64 n4, .int .i64 n5, .int .i64 n6, .int .i64 n7, .int .i64 n8, .int .i64 n9, .int .i64 n10, .int .i64 n11, .int .i64 n12, .int .i64 n13])
  have HL : Hid (∀ i, i < 14 → (#[.int .i64 n0, .int .i64 n1, .int .i64 n2, .int .i64 n3, .int .i64 n4, .int .i64 n5, .int .i64 n6, .int .i64 n7, .int .i64 n8, .int .i64 n9, .int .i64 n10, .int .i64 n11, .int .i64 n12, .int .i64 n13] : Array Value)[i]? = some (.int .i64 ([n0, n1, n2, n3, n4, n5, n6, n7, n8, n9, n10, n11, n12, n13].getD i 0))) := fun i hi => by
    have h : i = 0 ∨ i = 1 ∨ i = 2 ∨ i = 3 ∨ i = 4 ∨ i = 5 ∨ i = 6 ∨ i = 7 ∨ i = 8 ∨ i = 9 ∨ i = 10 ∨ i = 11 ∨ i = 12 ∨ i = 13 := by omega
    rcases h with rfl | rfl | rfl | rfl | rfl | rfl | rfl | rfl | rfl | rfl | rfl | rfl | rfl | rfl <;> rfl
  have q1 : ∀ x : Int, (x != x) = false := fun x => by simp
  have q2 : ∀ s : ByteArray, (s.toList != s.toList) = false := fun s => by simp
  have q3 : ∀ s : ByteArray, (s.toList == s.toList) = true := fun s => by simp
  obtain ⟨NN, hNN⟩ : ∃ NN : Array Value, NN = #[.int .i64 n0, .int .i64 n1, .int .i64 n2, .int .i64 n3, .int .i64 n4, .int .i64 n5, .int .i64 n6, .int .i64 n7, .int .i64 n8, .int .i64 n9, .int .i64 n10, .int .i64 n11, .int .i64 n12, .int .i64 n13] := ⟨_, rfl⟩
  go_enter Tryd.func17, Tryd.ntmps17
  go_wp2_with (first | (refine wpList_load_row rfl 27 _ rfl w.heap.size rfl 27 _ (0, 0) _ X0.out Tryd.underlying27 rfl size27 ?_) | (refine wpList_load_row rfl 27 _ rfl (w.heap.size + 1) rfl 27 _ (0, 0) _ X1.out Tryd.underlying27 rfl size27 ?_) | (go_at_call 25; refine (H25.out _).mono ?_; rintro e w1 ⟨rfl, rfl⟩))
  go_loopw [7] (fun i wr => ∃ j : Nat, j ≤ 14 ∧ i = .int .i64 j ∧ Hid (SmAt w #[.int .i64 k, .int .i64 n0, .int .i64 n1, .int .i64 n2, .int .i64 n3, .int .i64 n4, .int .i64 n5, .int .i64 n6, .int .i64 n7, .int .i64 n8, .int .i64 n9, .int .i64 n10, .int .i64 n11, .int .i64 n12, .int .i64 n13, .int .i64 e, .string s16, .string s17, .slice none 0 0, .slice none 0 0, .slice none 0 0] #[.int .i64 n0, .int .i64 n1, .int .i64 n2, .int .i64 n3, .int .i64 n4, .int .i64 n5, .int .i64 n6, .int .i64 n7, .int .i64 n8, .int .i64 n9, .int .i64 n10, .int .i64 n11, .int .i64 n12, .int .i64 n13] wr)) (fun i _ => 14 - (intOf i).toNat)
  case atStart => exact ⟨0, by omega, rfl, H0⟩
  case round =>
    obtain ⟨j, hj, rfl, HD⟩ := hrel
    clear H0
    by_cases hlt : j < 14
    · have hlt' : (j : Int) < 14 := by omega
      have i0 : (0 : Int) ≤ (j : Int) := by omega
      have c0 := cell_blk HD.out.r0 j _ (HL.out j hlt)
      have c1 := cell_blk HD.out.r1 j _ (HL.out j hlt)
      generalize [n0, n1, n2, n3, n4, n5, n6, n7, n8, n9, n10, n11, n12, n13].getD j 0 = V at *
      go_wp2
      go_quiet (fail)
      go_wp2
      go_roundw
      case rel => exact ⟨j + 1, by omega, by go_num, HD.out.drewN _⟩
      case measure => simp [intOf]; omega
    · have hlt' : ¬ (j : Int) < 14 := by omega
      obtain ⟨d0, d1, d2, d3, d4, d5, d6, d7, d8, d9, d10, d11, d12, d13, d14, d15, d16, d17, d18, d19, d20⟩ := mcells HD.out.b0
      obtain ⟨f0, f1, f2, f3, f4, f5, f6, f7, f8, f9, f10, f11, f12, f13, f14, f15, f16, f17, f18, f19, f20⟩ := mcells HD.out.b1
      clear d1 d2 d3 d4 d5 d6 d7 d8 d9 d10 d11 d12 d13 d14 f1 f2 f3 f4 f5 f6 f7 f8 f9 f10 f11 f12 f13 f14 HL X0 X1 H25
      go_wp2
      go_loopw [8] (fun i wx => i = .int .i64 0 ∧ wx = wr) (fun _ _ => 1)
      case atStart => exact ⟨rfl, rfl⟩
      case round =>
        obtain ⟨rfl, rfl⟩ := hrel
        go_wp2
        go_loopw [10] (fun i wx => i = .int .i64 0 ∧ wx = wr) (fun _ _ => 1)
        case atStart => exact ⟨rfl, rfl⟩
        case round =>
          obtain ⟨rfl, rfl⟩ := hrel
          go_wp2
          go_loopw [11] (fun i wx => i = .int .i64 0 ∧ wx = wr) (fun _ _ => 1)
          case atStart => exact ⟨rfl, rfl⟩
          case round =>
            obtain ⟨rfl, rfl⟩ := hrel
            go_wp2
            go_ret
            exact ⟨rfl, HD.out.below⟩
end Go.Proofs.YtocdlaoklagdoaaDoor
