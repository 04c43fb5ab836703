/- The chapter's examples. -/
import Derived.Test.YtdnpbhijjmlecaaZ7
import Derived.Test.YtdnpbhijjmlecaaZ1
import Derived.Deep.CutRange
import Derived.Deep.CutBlock
namespace Go.Proofs.Ytdnpbhijjmlecaa
open Go.RowKit Go.Maps
set_option maxRecDepth 100000
set_option linter.unusedSimpArgs false
set_option linter.unusedVariables false

theorem sm (n : Int) (h : -1000 ≤ n ∧ n ≤ 1000) : I64 n := by unfold I64; omega
theorem rcE_ok (k a b c d : Int) (n : ByteArray) (l : List Int) (h : (-1000 ≤ k ∧ k ≤ 1000) ∧ (-1000 ≤ a ∧ a ≤ 1000) ∧ (-1000 ≤ b ∧ b ≤ 1000) ∧ (-1000 ≤ c ∧ c ≤ 1000) ∧ (-1000 ≤ d ∧ d ≤ 1000)) : RcOk (rcE k a b c d n l) := ⟨sm _ h.1, sm _ h.2.1, sm _ h.2.2.1, sm _ h.2.2.2.1, sm _ h.2.2.2.2⟩
theorem gB_le : gB.size ≤ maxLen := by unfold maxLen; decide
theorem hB_le : hB.size ≤ maxLen := by unfold maxLen; decide
set_option maxHeartbeats 20000000 in
theorem shown_any (w : World) : Calls Try.prog 9 #[] w fun e w' => e = .returned (.bool true) ∧ Below w.heap.size w w' := by
  have HNEW := hid (IS.new (w := w))
  go_enter Try.func9, Try.ntmps9
  go_wp2_with fail
  refine HNEW.out.mono ?_
  rintro e W0 ⟨q, rfl, hi0⟩
  have HS0 : Hid (SH w W0 q s0 0 [] []) := ⟨_, hi0, (fun p hp => by cases hp), (fun p hp => by cases hp)⟩
  clear hi0 HNEW
  unfold ptr
  have HSL : Hid (SH w (W0.alloc (.cells #[.int .i64 1, .int .i64 2, .int .i64 3] 3)) q s0 0 [] [(.slice (some ⟨W0.heap.size, 0, none⟩) 3 3, [1, 2, 3])]) := HS0.out.lit [1, 2, 3] (fun x hx => sm _ (by simp at hx; omega)) (by simp)
  clear HS0
  obtain ⟨W, hW⟩ : ∃ W, W = W0.alloc (.cells #[.int .i64 1, .int .i64 2, .int .i64 3] 3) := ⟨_, rfl⟩
  obtain ⟨L, hL⟩ : ∃ L, L = W0.heap.size := ⟨_, rfl⟩
  rw [← hW, ← hL] at HSL
  go_upto_region 5 with fail
  rw [← hW, ← hL]
  clear hW hL
  have HC1 := hid (SH.call HSL.out (by omega) (rcE 1 0 0 0 0 gB [1, 2, 3]) (rcE_ok _ _ _ _ _ _ _ (by omega)) gB_le (some ⟨L, 0, none⟩) 3 (.inr (by first | exact List.mem_cons_self .. | exact List.mem_cons_of_mem _ (List.mem_cons_self ..))) (t := ⟨0, 1, 1, 0, [1, 2, 3]⟩) ex1)
  go_wp2_with fail
  refine HC1.out.mono ?_
  rintro e w1 ⟨a1, c1, rfl, _, hs1⟩
  have HT1 := hid hs1
  clear hs1 HC1 HSL
  unfold toldA at HT1 ⊢
  go_upto_region 6 with fail
  have HB1 : Hid (SH w (w1.alloc (.cells #[.int .i64 0, .int .i64 1, .int .i64 1, .int .i64 0, .slice a1 3 c1] 36)) q s1 1 [(w1.heap.size, #[.int .i64 0, .int .i64 1, .int .i64 1, .int .i64 0, .slice a1 3 c1])] [(.slice a1 3 c1, [1, 2, 3]), (.slice (some ⟨L, 0, none⟩) 3 3, [1, 2, 3])]) := SH.sub HT1.out (fun p hp => hp) (fun p hp => hp)
  clear HT1
  obtain ⟨B1, hB1⟩ : ∃ B, B = w1.heap.size := ⟨_, rfl⟩
  rw [← hB1] at HB1 ⊢
  generalize w1.alloc (.cells #[.int .i64 0, .int .i64 1, .int .i64 1, .int .i64 0, .slice a1 3 c1] 36) = V1 at *
  clear hB1
  have HC2 := hid (SH.call HB1.out (by omega) (rcE 1 0 0 0 0 gB [1, 2, 3]) (rcE_ok _ _ _ _ _ _ _ (by omega)) gB_le (some ⟨L, 0, none⟩) 3 (.inr (by first | exact List.mem_cons_self .. | exact List.mem_cons_of_mem _ (List.mem_cons_self ..))) (t := ⟨0, 2, 2, 0, [3]⟩) ex2)
  go_wp2_with fail
  refine HC2.out.mono ?_
  rintro e w2 ⟨a2, c2, rfl, _, hs2⟩
  have HT2 := hid hs2
  clear hs2 HC2 HB1
  unfold toldA at HT2 ⊢
  go_upto_region 7 with fail
  have HB2 : Hid (SH w (w2.alloc (.cells #[.int .i64 0, .int .i64 2, .int .i64 2, .int .i64 0, .slice a2 1 c2] 36)) q s2 2 [(w2.heap.size, #[.int .i64 0, .int .i64 2, .int .i64 2, .int .i64 0, .slice a2 1 c2]), (B1, #[.int .i64 0, .int .i64 1, .int .i64 1, .int .i64 0, .slice a1 3 c1])] [(.slice a2 1 c2, [3]), (.slice a1 3 c1, [1, 2, 3]), (.slice (some ⟨L, 0, none⟩) 3 3, [1, 2, 3])]) := SH.sub HT2.out (fun p hp => hp) (fun p hp => hp)
  clear HT2
  obtain ⟨B2, hB2⟩ : ∃ B, B = w2.heap.size := ⟨_, rfl⟩
  rw [← hB2] at HB2 ⊢
  generalize w2.alloc (.cells #[.int .i64 0, .int .i64 2, .int .i64 2, .int .i64 0, .slice a2 1 c2] 36) = V2 at *
  clear hB2
  have HC3 := hid (SH.call HB2.out (by omega) (rcE 6 1 2 0 0 gB []) (rcE_ok _ _ _ _ _ _ _ (by omega)) gB_le none 0 (.inl ⟨rfl, rfl, rfl⟩) (t := ⟨0, 1, 2, 0, [1, 2]⟩) ex3)
  go_wp2_with fail
  refine HC3.out.mono ?_
  rintro e w3 ⟨a3, c3, rfl, _, hs3⟩
  have HT3 := hid hs3
  clear hs3 HC3 HB2
  unfold toldA at HT3 ⊢
  go_upto_region 8 with fail
  have HB3 : Hid (SH w (w3.alloc (.cells #[.int .i64 0, .int .i64 1, .int .i64 2, .int .i64 0, .slice a3 2 c3] 36)) q s2 3 [(w3.heap.size, #[.int .i64 0, .int .i64 1, .int .i64 2, .int .i64 0, .slice a3 2 c3]), (B2, #[.int .i64 0, .int .i64 2, .int .i64 2, .int .i64 0, .slice a2 1 c2]), (B1, #[.int .i64 0, .int .i64 1, .int .i64 1, .int .i64 0, .slice a1 3 c1])] [(.slice a3 2 c3, [1, 2]), (.slice a2 1 c2, [3]), (.slice a1 3 c1, [1, 2, 3]), (.slice (some ⟨L, 0, none⟩) 3 3, [1, 2, 3])]) := SH.sub HT3.out (fun p hp => hp) (fun p hp => hp)
  clear HT3
  obtain ⟨B3, hB3⟩ : ∃ B, B = w3.heap.size := ⟨_, rfl⟩
  rw [← hB3] at HB3 ⊢
  generalize w3.alloc (.cells #[.int .i64 0, .int .i64 1, .int .i64 2, .int .i64 0, .slice a3 2 c3] 36) = V3 at *
  clear hB3
  have HC4 := hid (SH.call HB3.out (by omega) (rcE 6 1 1 0 0 gB []) (rcE_ok _ _ _ _ _ _ _ (by omega)) gB_le none 0 (.inl ⟨rfl, rfl, rfl⟩) (t := ⟨18, 0, 0, 0, []⟩) ex4)
  go_wp2_with fail
  refine HC4.out.mono ?_
  rintro e w4 ⟨a4, c4, rfl, _, hs4⟩
  have HT4 := hid hs4
  clear hs4 HC4 HB3
  unfold toldA at HT4 ⊢
  go_upto_region 9 with fail
  have HB4 : Hid (SH w (w4.alloc (.cells #[.int .i64 18, .int .i64 0, .int .i64 0, .int .i64 0, .slice a4 0 c4] 36)) q s2 4 [(w4.heap.size, #[.int .i64 18, .int .i64 0, .int .i64 0, .int .i64 0, .slice a4 0 c4]), (B3, #[.int .i64 0, .int .i64 1, .int .i64 2, .int .i64 0, .slice a3 2 c3]), (B2, #[.int .i64 0, .int .i64 2, .int .i64 2, .int .i64 0, .slice a2 1 c2]), (B1, #[.int .i64 0, .int .i64 1, .int .i64 1, .int .i64 0, .slice a1 3 c1])] [(.slice a3 2 c3, [1, 2]), (.slice a2 1 c2, [3]), (.slice a1 3 c1, [1, 2, 3]), (.slice (some ⟨L, 0, none⟩) 3 3, [1, 2, 3])]) := SH.sub HT4.out (fun p hp => hp) (fun p hp => List.mem_cons_of_mem _ hp)
  clear HT4
  obtain ⟨B4, hB4⟩ : ∃ B, B = w4.heap.size := ⟨_, rfl⟩
  rw [← hB4] at HB4 ⊢
  generalize w4.alloc (.cells #[.int .i64 18, .int .i64 0, .int .i64 0, .int .i64 0, .slice a4 0 c4] 36) = V4 at *
  clear hB4
  have HLT5 : Hid (SH w (V4.alloc (.cells #[.int .i64 4] 3)) q s2 4 [(B4, #[.int .i64 18, .int .i64 0, .int .i64 0, .int .i64 0, .slice a4 0 c4]), (B3, #[.int .i64 0, .int .i64 1, .int .i64 2, .int .i64 0, .slice a3 2 c3]), (B2, #[.int .i64 0, .int .i64 2, .int .i64 2, .int .i64 0, .slice a2 1 c2]), (B1, #[.int .i64 0, .int .i64 1, .int .i64 1, .int .i64 0, .slice a1 3 c1])] ((.slice (some ⟨V4.heap.size, 0, none⟩) 1 1, [4]) :: [(.slice a3 2 c3, [1, 2]), (.slice a2 1 c2, [3]), (.slice a1 3 c1, [1, 2, 3]), (.slice (some ⟨L, 0, none⟩) 3 3, [1, 2, 3])])) := HB4.out.lit [4] (fun x hx => sm _ (by simp at hx; omega)) (by simp)
  have HC5 := hid (SH.call HLT5.out (by omega) (rcE 3 1 2 1 7 gB [4]) (rcE_ok _ _ _ _ _ _ _ (by omega)) gB_le (some ⟨V4.heap.size, 0, none⟩) 1 (.inr (List.mem_cons_self ..)) (t := ⟨0, 1, 2, 7, []⟩) ex5)
  go_wp2_with fail
  refine HC5.out.mono ?_
  rintro e w5 ⟨a5, c5, rfl, _, hs5⟩
  have HT5 := hid hs5
  clear hs5 HC5 HB4 HLT5
  unfold toldA at HT5 ⊢
  go_upto_region 10 with fail
  have HB5 : Hid (SH w (w5.alloc (.cells #[.int .i64 0, .int .i64 1, .int .i64 2, .int .i64 7, .slice a5 0 c5] 36)) q s5 5 [(w5.heap.size, #[.int .i64 0, .int .i64 1, .int .i64 2, .int .i64 7, .slice a5 0 c5]), (B4, #[.int .i64 18, .int .i64 0, .int .i64 0, .int .i64 0, .slice a4 0 c4]), (B3, #[.int .i64 0, .int .i64 1, .int .i64 2, .int .i64 0, .slice a3 2 c3]), (B2, #[.int .i64 0, .int .i64 2, .int .i64 2, .int .i64 0, .slice a2 1 c2]), (B1, #[.int .i64 0, .int .i64 1, .int .i64 1, .int .i64 0, .slice a1 3 c1])] [(.slice a3 2 c3, [1, 2]), (.slice a2 1 c2, [3]), (.slice a1 3 c1, [1, 2, 3]), (.slice (some ⟨L, 0, none⟩) 3 3, [1, 2, 3])]) := SH.sub HT5.out (fun p hp => hp) (fun p hp => List.mem_cons_of_mem _ (List.mem_cons_of_mem _ hp))
  clear HT5
  obtain ⟨B5, hB5⟩ : ∃ B, B = w5.heap.size := ⟨_, rfl⟩
  rw [← hB5] at HB5 ⊢
  generalize w5.alloc (.cells #[.int .i64 0, .int .i64 1, .int .i64 2, .int .i64 7, .slice a5 0 c5] 36) = V5 at *
  clear hB5
  have HLT6 : Hid (SH w (V5.alloc (.cells #[.int .i64 4] 3)) q s5 5 [(B5, #[.int .i64 0, .int .i64 1, .int .i64 2, .int .i64 7, .slice a5 0 c5]), (B4, #[.int .i64 18, .int .i64 0, .int .i64 0, .int .i64 0, .slice a4 0 c4]), (B3, #[.int .i64 0, .int .i64 1, .int .i64 2, .int .i64 0, .slice a3 2 c3]), (B2, #[.int .i64 0, .int .i64 2, .int .i64 2, .int .i64 0, .slice a2 1 c2]), (B1, #[.int .i64 0, .int .i64 1, .int .i64 1, .int .i64 0, .slice a1 3 c1])] ((.slice (some ⟨V5.heap.size, 0, none⟩) 1 1, [4]) :: [(.slice a3 2 c3, [1, 2]), (.slice a2 1 c2, [3]), (.slice a1 3 c1, [1, 2, 3]), (.slice (some ⟨L, 0, none⟩) 3 3, [1, 2, 3])])) := HB5.out.lit [4] (fun x hx => sm _ (by simp at hx; omega)) (by simp)
  have HC6 := hid (SH.call HLT6.out (by omega) (rcE 3 1 2 1 7 gB [4]) (rcE_ok _ _ _ _ _ _ _ (by omega)) gB_le (some ⟨V5.heap.size, 0, none⟩) 1 (.inr (List.mem_cons_self ..)) (t := ⟨12, 0, 0, 0, []⟩) ex6)
  go_wp2_with fail
  refine HC6.out.mono ?_
  rintro e w6 ⟨a6, c6, rfl, _, hs6⟩
  have HT6 := hid hs6
  clear hs6 HC6 HB5 HLT6
  unfold toldA at HT6 ⊢
  go_upto_region 11 with fail
  have HB6 : Hid (SH w (w6.alloc (.cells #[.int .i64 12, .int .i64 0, .int .i64 0, .int .i64 0, .slice a6 0 c6] 36)) q s5 6 [(w6.heap.size, #[.int .i64 12, .int .i64 0, .int .i64 0, .int .i64 0, .slice a6 0 c6]), (B5, #[.int .i64 0, .int .i64 1, .int .i64 2, .int .i64 7, .slice a5 0 c5]), (B4, #[.int .i64 18, .int .i64 0, .int .i64 0, .int .i64 0, .slice a4 0 c4]), (B3, #[.int .i64 0, .int .i64 1, .int .i64 2, .int .i64 0, .slice a3 2 c3]), (B2, #[.int .i64 0, .int .i64 2, .int .i64 2, .int .i64 0, .slice a2 1 c2]), (B1, #[.int .i64 0, .int .i64 1, .int .i64 1, .int .i64 0, .slice a1 3 c1])] [(.slice a3 2 c3, [1, 2]), (.slice a2 1 c2, [3]), (.slice a1 3 c1, [1, 2, 3]), (.slice (some ⟨L, 0, none⟩) 3 3, [1, 2, 3])]) := SH.sub HT6.out (fun p hp => hp) (fun p hp => List.mem_cons_of_mem _ (List.mem_cons_of_mem _ hp))
  clear HT6
  obtain ⟨B6, hB6⟩ : ∃ B, B = w6.heap.size := ⟨_, rfl⟩
  rw [← hB6] at HB6 ⊢
  generalize w6.alloc (.cells #[.int .i64 12, .int .i64 0, .int .i64 0, .int .i64 0, .slice a6 0 c6] 36) = V6 at *
  clear hB6
  have HC7 := hid (SH.call HB6.out (by omega) (rcE 4 0 0 1 0 gB []) (rcE_ok _ _ _ _ _ _ _ (by omega)) gB_le none 0 (.inl ⟨rfl, rfl, rfl⟩) (t := ⟨0, 0, 2, 7, []⟩) ex7)
  go_wp2_with fail
  refine HC7.out.mono ?_
  rintro e w7 ⟨a7, c7, rfl, _, hs7⟩
  have HT7 := hid hs7
  clear hs7 HC7 HB6
  unfold toldA at HT7 ⊢
  go_upto_region 12 with fail
  have HB7 : Hid (SH w (w7.alloc (.cells #[.int .i64 0, .int .i64 0, .int .i64 2, .int .i64 7, .slice a7 0 c7] 36)) q s5 7 [(w7.heap.size, #[.int .i64 0, .int .i64 0, .int .i64 2, .int .i64 7, .slice a7 0 c7]), (B6, #[.int .i64 12, .int .i64 0, .int .i64 0, .int .i64 0, .slice a6 0 c6]), (B5, #[.int .i64 0, .int .i64 1, .int .i64 2, .int .i64 7, .slice a5 0 c5]), (B4, #[.int .i64 18, .int .i64 0, .int .i64 0, .int .i64 0, .slice a4 0 c4]), (B3, #[.int .i64 0, .int .i64 1, .int .i64 2, .int .i64 0, .slice a3 2 c3]), (B2, #[.int .i64 0, .int .i64 2, .int .i64 2, .int .i64 0, .slice a2 1 c2]), (B1, #[.int .i64 0, .int .i64 1, .int .i64 1, .int .i64 0, .slice a1 3 c1])] [(.slice a3 2 c3, [1, 2]), (.slice a2 1 c2, [3]), (.slice a1 3 c1, [1, 2, 3]), (.slice (some ⟨L, 0, none⟩) 3 3, [1, 2, 3])]) := SH.sub HT7.out (fun p hp => hp) (fun p hp => List.mem_cons_of_mem _ hp)
  clear HT7
  obtain ⟨B7, hB7⟩ : ∃ B, B = w7.heap.size := ⟨_, rfl⟩
  rw [← hB7] at HB7 ⊢
  generalize w7.alloc (.cells #[.int .i64 0, .int .i64 0, .int .i64 2, .int .i64 7, .slice a7 0 c7] 36) = V7 at *
  clear hB7
  have HLT8 : Hid (SH w (V7.alloc (.cells #[.int .i64 0] 3)) q s5 7 [(B7, #[.int .i64 0, .int .i64 0, .int .i64 2, .int .i64 7, .slice a7 0 c7]), (B6, #[.int .i64 12, .int .i64 0, .int .i64 0, .int .i64 0, .slice a6 0 c6]), (B5, #[.int .i64 0, .int .i64 1, .int .i64 2, .int .i64 7, .slice a5 0 c5]), (B4, #[.int .i64 18, .int .i64 0, .int .i64 0, .int .i64 0, .slice a4 0 c4]), (B3, #[.int .i64 0, .int .i64 1, .int .i64 2, .int .i64 0, .slice a3 2 c3]), (B2, #[.int .i64 0, .int .i64 2, .int .i64 2, .int .i64 0, .slice a2 1 c2]), (B1, #[.int .i64 0, .int .i64 1, .int .i64 1, .int .i64 0, .slice a1 3 c1])] ((.slice (some ⟨V7.heap.size, 0, none⟩) 1 1, [0]) :: [(.slice a3 2 c3, [1, 2]), (.slice a2 1 c2, [3]), (.slice a1 3 c1, [1, 2, 3]), (.slice (some ⟨L, 0, none⟩) 3 3, [1, 2, 3])])) := HB7.out.lit [0] (fun x hx => sm _ (by simp at hx; omega)) (by simp)
  have HC8 := hid (SH.call HLT8.out (by omega) (rcE 3 2 2 1 9 gB [0]) (rcE_ok _ _ _ _ _ _ _ (by omega)) gB_le (some ⟨V7.heap.size, 0, none⟩) 1 (.inr (List.mem_cons_self ..)) (t := ⟨19, 0, 0, 0, []⟩) ex8)
  go_wp2_with fail
  refine HC8.out.mono ?_
  rintro e w8 ⟨a8, c8, rfl, _, hs8⟩
  have HT8 := hid hs8
  clear hs8 HC8 HB7 HLT8
  unfold toldA at HT8 ⊢
  go_upto_region 13 with fail
  have HB8 : Hid (SH w (w8.alloc (.cells #[.int .i64 19, .int .i64 0, .int .i64 0, .int .i64 0, .slice a8 0 c8] 36)) q s5 8 [(w8.heap.size, #[.int .i64 19, .int .i64 0, .int .i64 0, .int .i64 0, .slice a8 0 c8]), (B7, #[.int .i64 0, .int .i64 0, .int .i64 2, .int .i64 7, .slice a7 0 c7]), (B6, #[.int .i64 12, .int .i64 0, .int .i64 0, .int .i64 0, .slice a6 0 c6]), (B5, #[.int .i64 0, .int .i64 1, .int .i64 2, .int .i64 7, .slice a5 0 c5]), (B4, #[.int .i64 18, .int .i64 0, .int .i64 0, .int .i64 0, .slice a4 0 c4]), (B3, #[.int .i64 0, .int .i64 1, .int .i64 2, .int .i64 0, .slice a3 2 c3]), (B2, #[.int .i64 0, .int .i64 2, .int .i64 2, .int .i64 0, .slice a2 1 c2]), (B1, #[.int .i64 0, .int .i64 1, .int .i64 1, .int .i64 0, .slice a1 3 c1])] [(.slice a3 2 c3, [1, 2]), (.slice a2 1 c2, [3]), (.slice a1 3 c1, [1, 2, 3]), (.slice (some ⟨L, 0, none⟩) 3 3, [1, 2, 3])]) := SH.sub HT8.out (fun p hp => hp) (fun p hp => List.mem_cons_of_mem _ (List.mem_cons_of_mem _ hp))
  clear HT8
  obtain ⟨B8, hB8⟩ : ∃ B, B = w8.heap.size := ⟨_, rfl⟩
  rw [← hB8] at HB8 ⊢
  generalize w8.alloc (.cells #[.int .i64 19, .int .i64 0, .int .i64 0, .int .i64 0, .slice a8 0 c8] 36) = V8 at *
  clear hB8
  have HC9 := hid (SH.call HB8.out (by omega) (rcE 4 0 0 1 0 hB []) (rcE_ok _ _ _ _ _ _ _ (by omega)) hB_le none 0 (.inl ⟨rfl, rfl, rfl⟩) (t := ⟨8, 0, 0, 0, []⟩) ex9)
  go_wp2_with fail
  refine HC9.out.mono ?_
  rintro e w9 ⟨a9, c9, rfl, _, hs9⟩
  have HT9 := hid hs9
  clear hs9 HC9 HB8
  unfold toldA at HT9 ⊢
  go_upto_region 14 with fail
  have HB9 : Hid (SH w (w9.alloc (.cells #[.int .i64 8, .int .i64 0, .int .i64 0, .int .i64 0, .slice a9 0 c9] 36)) q s5 9 [(w9.heap.size, #[.int .i64 8, .int .i64 0, .int .i64 0, .int .i64 0, .slice a9 0 c9]), (B8, #[.int .i64 19, .int .i64 0, .int .i64 0, .int .i64 0, .slice a8 0 c8]), (B7, #[.int .i64 0, .int .i64 0, .int .i64 2, .int .i64 7, .slice a7 0 c7]), (B6, #[.int .i64 12, .int .i64 0, .int .i64 0, .int .i64 0, .slice a6 0 c6]), (B5, #[.int .i64 0, .int .i64 1, .int .i64 2, .int .i64 7, .slice a5 0 c5]), (B4, #[.int .i64 18, .int .i64 0, .int .i64 0, .int .i64 0, .slice a4 0 c4]), (B3, #[.int .i64 0, .int .i64 1, .int .i64 2, .int .i64 0, .slice a3 2 c3]), (B2, #[.int .i64 0, .int .i64 2, .int .i64 2, .int .i64 0, .slice a2 1 c2]), (B1, #[.int .i64 0, .int .i64 1, .int .i64 1, .int .i64 0, .slice a1 3 c1])] [(.slice a3 2 c3, [1, 2]), (.slice a2 1 c2, [3]), (.slice a1 3 c1, [1, 2, 3]), (.slice (some ⟨L, 0, none⟩) 3 3, [1, 2, 3])]) := SH.sub HT9.out (fun p hp => hp) (fun p hp => List.mem_cons_of_mem _ hp)
  clear HT9
  obtain ⟨B9, hB9⟩ : ∃ B, B = w9.heap.size := ⟨_, rfl⟩
  rw [← hB9] at HB9 ⊢
  generalize w9.alloc (.cells #[.int .i64 8, .int .i64 0, .int .i64 0, .int .i64 0, .slice a9 0 c9] 36) = V9 at *
  clear hB9
  have r14 := cell_blk (HB9.out.boxAt 8 (k := B1) rfl) 4 _ rfl
  have HSA := hid (sameList_any (HB9.out.listAt 2 (v := .slice a1 3 c1) (l := [1, 2, 3]) rfl) (HB9.out.listAt 3 (v := .slice (some ⟨L, 0, none⟩) 3 3) (l := [1, 2, 3]) rfl))
  rw [show (decide (([1, 2, 3] : List Int) = [1, 2, 3])) = true by decide] at HSA
  go_wp2_with fail
  refine HSA.out.mono ?_
  rintro e v1 ⟨rfl, hb1⟩
  have HD1 := hid (HB9.out.under hb1)
  clear hb1 HSA HB9 r14
  have HLb : Hid (SH w (v1.alloc (.cells #[.int .i64 3] 3)) q s5 9 [(B9, #[.int .i64 8, .int .i64 0, .int .i64 0, .int .i64 0, .slice a9 0 c9]), (B8, #[.int .i64 19, .int .i64 0, .int .i64 0, .int .i64 0, .slice a8 0 c8]), (B7, #[.int .i64 0, .int .i64 0, .int .i64 2, .int .i64 7, .slice a7 0 c7]), (B6, #[.int .i64 12, .int .i64 0, .int .i64 0, .int .i64 0, .slice a6 0 c6]), (B5, #[.int .i64 0, .int .i64 1, .int .i64 2, .int .i64 7, .slice a5 0 c5]), (B4, #[.int .i64 18, .int .i64 0, .int .i64 0, .int .i64 0, .slice a4 0 c4]), (B3, #[.int .i64 0, .int .i64 1, .int .i64 2, .int .i64 0, .slice a3 2 c3]), (B2, #[.int .i64 0, .int .i64 2, .int .i64 2, .int .i64 0, .slice a2 1 c2]), (B1, #[.int .i64 0, .int .i64 1, .int .i64 1, .int .i64 0, .slice a1 3 c1])] ((.slice (some ⟨v1.heap.size, 0, none⟩) 1 1, [3]) :: [(.slice a3 2 c3, [1, 2]), (.slice a2 1 c2, [3]), (.slice a1 3 c1, [1, 2, 3]), (.slice (some ⟨L, 0, none⟩) 3 3, [1, 2, 3])])) := HD1.out.lit [3] (fun x hx => sm _ (by simp at hx; omega)) (by simp)
  have r24 := cell_blk (HD1.out.boxAt 7 (k := B2) rfl) 4 _ rfl
  have hB2 := (Array.getElem?_eq_some_iff.1 (HD1.out.boxAt 7 (k := B2) rfl)).1
  have hB2n : ¬ B2 = v1.heap.size := by omega
  have HSB := hid (sameList_any (HLb.out.listAt 2 (v := .slice a2 1 c2) (l := [3]) rfl) (HLb.out.listAt 0 (v := .slice (some ⟨v1.heap.size, 0, none⟩) 1 1) (l := [3]) rfl))
  rw [show (decide (([3] : List Int) = [3])) = true by decide] at HSB
  go_wp2_with fail
  refine HSB.out.mono ?_
  rintro e v2 ⟨rfl, hb2⟩
  have HD2 := hid (HLb.out.under hb2)
  clear hb2 HSB HLb HD1 r24 hB2 hB2n
  have HLc : Hid (SH w (v2.alloc (.cells #[.int .i64 1, .int .i64 2] 3)) q s5 9 _ ((.slice (some ⟨v2.heap.size, 0, none⟩) 2 2, [1, 2]) :: _)) := HD2.out.lit [1, 2] (fun x hx => sm _ (by simp at hx; omega)) (by simp)
  have r34 := cell_blk (HD2.out.boxAt 6 (k := B3) rfl) 4 _ rfl
  have hB3 := (Array.getElem?_eq_some_iff.1 (HD2.out.boxAt 6 (k := B3) rfl)).1
  have hB3n : ¬ B3 = v2.heap.size := by omega
  have HSC := hid (sameList_any (HLc.out.listAt 2 (v := .slice a3 2 c3) (l := [1, 2]) rfl) (HLc.out.listAt 0 (v := .slice (some ⟨v2.heap.size, 0, none⟩) 2 2) (l := [1, 2]) rfl))
  rw [show (decide (([1, 2] : List Int) = [1, 2])) = true by decide] at HSC
  go_wp2_with fail
  refine HSC.out.mono ?_
  rintro e v3 ⟨rfl, hb3⟩
  have HD3 := hid (HLc.out.under hb3)
  clear hb3 HSC HLc HD2 r34 hB3 hB3n
  have u11 := cell_blk (HD3.out.boxAt 8 (k := B1) rfl) 1 _ rfl
  have u12 := cell_blk (HD3.out.boxAt 8 (k := B1) rfl) 2 _ rfl
  have u21 := cell_blk (HD3.out.boxAt 7 (k := B2) rfl) 1 _ rfl
  have u22 := cell_blk (HD3.out.boxAt 7 (k := B2) rfl) 2 _ rfl
  have u40 := cell_blk (HD3.out.boxAt 5 (k := B4) rfl) 0 _ rfl
  have u53 := cell_blk (HD3.out.boxAt 4 (k := B5) rfl) 3 _ rfl
  have u60 := cell_blk (HD3.out.boxAt 3 (k := B6) rfl) 0 _ rfl
  have u73 := cell_blk (HD3.out.boxAt 2 (k := B7) rfl) 3 _ rfl
  have u80 := cell_blk (HD3.out.boxAt 1 (k := B8) rfl) 0 _ rfl
  have u90 := cell_blk (HD3.out.boxAt 0 (k := B9) rfl) 0 _ rfl
  obtain ⟨X, hX⟩ := HD3.out.is
  have HOW := hid (hX.owner gB gB_le 3 (sm _ (by omega)))
  have HX := hid hX
  clear hX
  rw [show (foundG s5.gs gB.data.toList) = foundG s5.gs [103] from rfl, ex10] at HOW
  have HOF : Hid (∀ V, Below v3.heap.size v3 V → Calls Try.prog 21 #[.pointer (some ⟨q, 0, none⟩), .string gB, .int .i64 2] V fun e w' => e = .returned (.int .i64 (-1)) ∧ Below V.heap.size V w') := fun V hV => by
    have := (HX.out.under hV).offset gB gB_le 2 (sm _ (by omega))
    rw [show (foundG s5.gs gB.data.toList) = foundG s5.gs [103] from rfl, ex11] at this
    exact this
  have HBL := hid HD3.out.below
  unfold gB at HOW HOF
  clear HD3 HX
  simp only [List.append_eq, List.cons_append, List.nil_append]
  go_wp2_with (first | (go_at_call 20; refine HOW.out.mono ?_; rintro e v4 ⟨rfl, hb4⟩; have HB4 := hid hb4; clear hb4) | (go_at_call 21; refine (HOF.out _ HB4.out).mono ?_; rintro e v5 ⟨rfl, hb5⟩; have HB5 := hid hb5; clear hb5) | fail)
  go_ret
  exact ⟨rfl, HBL.out.trans ((HB4.out.mono HBL.out.size).trans (HB5.out.mono (Nat.le_trans HBL.out.size HB4.out.size)))⟩
end Go.Proofs.Ytdnpbhijjmlecaa

