/- Same. -/
import Derived.Test.YtfahepeemodcbaaM8a
import Derived.Test.YtfahepeemodcbaaM6a
namespace Go.Proofs.Ytfahepeemodcbaa
open Go.RowKit Go.Maps
set_option linter.unusedSimpArgs false
set_option linter.unusedVariables false
set_option maxRecDepth 100000

theorem sa1 (a b c d e f g h i : Bool) : (a && b && c && d && e && f && g && h && i) = (a && (b && (c && (d && (e && (f && (g && (h && i)))))))) := by simp only [Bool.and_assoc]
set_option maxHeartbeats 6400000 in
theorem same_any {w : World} {v v2 : Value} {p p2 : Pt} (h : PartM w v p) (h2 : PartM w v2 p2) : Calls Try.prog 14 #[v, v2] w fun e w' => e = .returned (.bool (sameP p p2)) ∧ Below w.heap.size w w' := by
  obtain ⟨id, ld, ep, vr, isr, reps, add, rem, mn⟩ := p
  obtain ⟨a1, c1, a2, c2, a3, c3, a4, c4, rfl, q1, q2, q3, q4, i0, i1, i2, i3, i4⟩ := h.open
  simp only at q1 q2 q3 q4 i0 i1 i2 i3 i4 ⊢
  have Q1 := hid q1
  have Q2 := hid q2
  have Q3 := hid q3
  have Q4 := hid q4
  clear h q1 q2 q3 q4
  obtain ⟨id2, ld2, ep2, vr2, isr2, reps2, add2, rem2, mn2⟩ := p2
  obtain ⟨b1, d1, b2, d2, b3, d3, b4, d4, rfl, q1, q2, q3, q4, _⟩ := h2.open
  simp only at q1 q2 q3 q4
  have R1 := hid q1
  have R2 := hid q2
  have R3 := hid q3
  have R4 := hid q4
  have HT0 := hid (two_new w #[.int .i64 id, .int .i64 ld, .int .i64 ep, .int .i64 vr, .slice a1 isr.length c1, .slice a2 reps.length c2, .slice a3 add.length c3, .slice a4 rem.length c4, .int .i64 mn] #[.int .i64 id2, .int .i64 ld2, .int .i64 ep2, .int .i64 vr2, .slice b1 isr2.length d1, .slice b2 reps2.length d2, .slice b3 add2.length d3, .slice b4 rem2.length d4, .int .i64 mn2])
  have G1 : Hid (∀ W, Below w.heap.size w W → Calls Try.prog 44 #[.slice a1 isr.length c1, .slice b1 isr2.length d1] W fun e w' => e = .returned (.bool (decide (isr = isr2))) ∧ Below W.heap.size W w') := fun W hb => equal_any (Q1.out.under hb) (R1.out.under hb)
  have G2 : Hid (∀ W, Below w.heap.size w W → Calls Try.prog 44 #[.slice a2 reps.length c2, .slice b2 reps2.length d2] W fun e w' => e = .returned (.bool (decide (reps = reps2))) ∧ Below W.heap.size W w') := fun W hb => equal_any (Q2.out.under hb) (R2.out.under hb)
  have G3 : Hid (∀ W, Below w.heap.size w W → Calls Try.prog 44 #[.slice a3 add.length c3, .slice b3 add2.length d3] W fun e w' => e = .returned (.bool (decide (add = add2))) ∧ Below W.heap.size W w') := fun W hb => equal_any (Q3.out.under hb) (R3.out.under hb)
  have G4 : Hid (∀ W, Below w.heap.size w W → Calls Try.prog 44 #[.slice a4 rem.length c4, .slice b4 rem2.length d4] W fun e w' => e = .returned (.bool (decide (rem = rem2))) ∧ Below W.heap.size W w') := fun W hb => equal_any (Q4.out.under hb) (R4.out.under hb)
  have HN : Hid (sameP ⟨id, ld, ep, vr, isr, reps, add, rem, mn⟩ ⟨id2, ld2, ep2, vr2, isr2, reps2, add2, rem2, mn2⟩ = (decide (id = id2) && (decide (ld = ld2) && (decide (ep = ep2) && (decide (vr = vr2) && (decide (mn = mn2) && (decide (isr = isr2) && (decide (reps = reps2) && (decide (add = add2) && decide (rem = rem2)))))))))) := sa1 _ _ _ _ _ _ _ _ _
  rw [HN.out]
  generalize decide (isr = isr2) = B1 at *
  generalize decide (reps = reps2) = B2 at *
  generalize decide (add = add2) = B3 at *
  generalize decide (rem = rem2) = B4 at *
  clear HN h2 q1 q2 q3 q4 i0 i1 i2 i3 i4 Q1 Q2 Q3 Q4 R1 R2 R3 R4
  by_cases hid : id = id2
  case neg =>
    go_enter Try.func14, Try.ntmps14
    go_wp2_with fail
    go_ret
    exact ⟨ret_bool (by simp [hid]), HT0.out.b⟩
  subst hid
  by_cases hld : ld = ld2
  case neg =>
    go_enter Try.func14, Try.ntmps14
    go_wp2_with fail
    go_ret
    exact ⟨ret_bool (by simp [hld]), HT0.out.b⟩
  subst hld
  by_cases hep : ep = ep2
  case neg =>
    go_enter Try.func14, Try.ntmps14
    go_wp2_with fail
    go_ret
    exact ⟨ret_bool (by simp [hep]), HT0.out.b⟩
  subst hep
  by_cases hvr : vr = vr2
  case neg =>
    go_enter Try.func14, Try.ntmps14
    go_wp2_with fail
    go_ret
    exact ⟨ret_bool (by simp [hvr]), HT0.out.b⟩
  subst hvr
  by_cases hmn : mn = mn2
  case neg =>
    go_enter Try.func14, Try.ntmps14
    go_wp2_with fail
    go_ret
    exact ⟨ret_bool (by simp [hmn]), HT0.out.b⟩
  subst hmn
  go_enter Try.func14, Try.ntmps14
  go_wp2_with fail
  generalize (w.alloc (.cells #[.int .i64 id, .int .i64 ld, .int .i64 ep, .int .i64 vr, .slice a1 isr.length c1, .slice a2 reps.length c2, .slice a3 add.length c3, .slice a4 rem.length c4, .int .i64 mn] 24)).alloc (.cells #[.int .i64 id, .int .i64 ld, .int .i64 ep, .int .i64 vr, .slice b1 isr2.length d1, .slice b2 reps2.length d2, .slice b3 add2.length d3, .slice b4 rem2.length d4, .int .i64 mn] 24) = W0 at *
  refine (G1.out _ HT0.out.b).mono ?_
  rintro e W1 ⟨rfl, hb⟩
  have HT1 := hid (HT0.out.next hb)
  clear hb
  have k := cell_blk HT1.out.x 5 _ rfl
  have z := cell_blk HT1.out.z 5 _ rfl
  cases B1
  · go_wp2_with fail
    go_ret
    exact ⟨ret_bool (by simp), HT1.out.b⟩
  go_wp2_with fail
  refine (G2.out _ HT1.out.b).mono ?_
  rintro e W2 ⟨rfl, hb⟩
  have HT2 := hid (HT1.out.next hb)
  clear hb
  have k := cell_blk HT2.out.x 6 _ rfl
  have z := cell_blk HT2.out.z 6 _ rfl
  cases B2
  · go_wp2_with fail
    go_ret
    exact ⟨ret_bool (by simp), HT2.out.b⟩
  go_wp2_with fail
  refine (G3.out _ HT2.out.b).mono ?_
  rintro e W3 ⟨rfl, hb⟩
  have HT3 := hid (HT2.out.next hb)
  clear hb
  have k := cell_blk HT3.out.x 7 _ rfl
  have z := cell_blk HT3.out.z 7 _ rfl
  cases B3
  · go_wp2_with fail
    go_ret
    exact ⟨ret_bool (by simp), HT3.out.b⟩
  go_wp2_with fail
  refine (G4.out _ HT3.out.b).mono ?_
  rintro e W4 ⟨rfl, hb⟩
  have HT4 := hid (HT3.out.next hb)
  clear hb
  go_wp2_with fail
  go_ret
  exact ⟨ret_bool (by simp), HT4.out.b⟩
end Go.Proofs.Ytfahepeemodcbaa
