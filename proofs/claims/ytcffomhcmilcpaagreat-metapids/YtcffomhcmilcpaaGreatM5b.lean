/- Right. -/
import Derived.Test.YtcffomhcmilcpaaGreatM5a
namespace Go.Proofs.YtcffomhcmilcpaaGreat
open Go.RowKit Go.Maps
set_option linter.unusedSimpArgs false
set_option linter.unusedVariables false
set_option maxRecDepth 100000

set_option maxHeartbeats 3200000 in
theorem right_any {w : World} {v : Value} {p : Pt} (h : PartM w v p) : Calls Tryz.prog 96 #[v] w fun e w' => e = .returned (.bool (rightB p)) ∧ Below w.heap.size w w' := by
  obtain ⟨id, ld, ep, vr, isr, reps, add, rem, mn⟩ := p
  obtain ⟨a1, c1, a2, c2, a3, c3, a4, c4, rfl, q1, q2, q3, q4, i0, i1, i2, i3, i4⟩ := h.open
  simp only at q1 q2 q3 q4 i0 i1 i2 i3 i4 ⊢
  have Q1 := hid q1
  have Q2 := hid q2
  have Q3 := hid q3
  have Q4 := hid q4
  clear h q1 q2 q3 q4
  have HX : Hid ((w.alloc (.cells #[.int .i64 id, .int .i64 ld, .int .i64 ep, .int .i64 vr, .slice a1 isr.length c1, .slice a2 reps.length c2, .slice a3 add.length c3, .slice a4 rem.length c4, .int .i64 mn] 54)).heap[w.heap.size]? = some (.cells #[.int .i64 id, .int .i64 ld, .int .i64 ep, .int .i64 vr, .slice a1 isr.length c1, .slice a2 reps.length c2, .slice a3 add.length c3, .slice a4 rem.length c4, .int .i64 mn] 54)) := heap_alloc_new w _
  have HB : Hid (Below w.heap.size w (w.alloc (.cells #[.int .i64 id, .int .i64 ld, .int .i64 ep, .int .i64 vr, .slice a1 isr.length c1, .slice a2 reps.length c2, .slice a3 add.length c3, .slice a4 rem.length c4, .int .i64 mn] 54))) := (Below.refl _ _).alloc (Nat.le_refl _) _
  have hsz : (w.alloc (.cells #[.int .i64 id, .int .i64 ld, .int .i64 ep, .int .i64 vr, .slice a1 isr.length c1, .slice a2 reps.length c2, .slice a3 add.length c3, .slice a4 rem.length c4, .int .i64 mn] 54)).heap.size = w.heap.size + 1 := by simp
  have HN : Hid (rightB ⟨id, ld, ep, vr, isr, reps, add, rem, mn⟩ = (numB ⟨id, ld, ep, vr, isr, reps, add, rem, mn⟩ && listB ⟨id, ld, ep, vr, isr, reps, add, rem, mn⟩ && (decide (ld = 0) || hasB isr ld))) := rfl
  have HP : Hid (∀ W, Below w.heap.size w W → PartM W (.agg #[.int .i64 id, .int .i64 ld, .int .i64 ep, .int .i64 vr, .slice a1 isr.length c1, .slice a2 reps.length c2, .slice a3 add.length c3, .slice a4 rem.length c4, .int .i64 mn]) ⟨id, ld, ep, vr, isr, reps, add, rem, mn⟩) := fun W hb => ⟨_, _, _, _, rfl, Q1.out.under hb, Q2.out.under hb, Q3.out.under hb, Q4.out.under hb, i0, i1, i2, i3, i4⟩
  have G1 := hid (nums_any (HP.out _ HB.out))
  have G2 : Hid (∀ W, Below w.heap.size w W → Calls Tryz.prog 137 #[.agg #[.int .i64 id, .int .i64 ld, .int .i64 ep, .int .i64 vr, .slice a1 isr.length c1, .slice a2 reps.length c2, .slice a3 add.length c3, .slice a4 rem.length c4, .int .i64 mn]] W fun e w' => e = .returned (.bool (listB ⟨id, ld, ep, vr, isr, reps, add, rem, mn⟩)) ∧ Below W.heap.size W w') := fun W hb => lists_any (HP.out W hb)
  have G3 : Hid (∀ W, Below w.heap.size w W → Calls Tryz.prog 138 #[.slice a1 isr.length c1, .int .i64 ld] W fun e w' => e = .returned (.bool (hasB isr ld)) ∧ W = w') := fun W hb => has_any (Q1.out.under hb) ld i1
  rw [HN.out]
  generalize numB ⟨id, ld, ep, vr, isr, reps, add, rem, mn⟩ = B1 at *
  generalize listB ⟨id, ld, ep, vr, isr, reps, add, rem, mn⟩ = B2 at *
  generalize hasB isr ld = B3 at *
  clear HN i0 i1 i2 i3 i4 Q1 Q2 Q3 Q4
  go_enter Tryz.func96, Tryz.ntmps96
  go_wp2_with fail
  generalize w.alloc (.cells #[.int .i64 id, .int .i64 ld, .int .i64 ep, .int .i64 vr, .slice a1 isr.length c1, .slice a2 reps.length c2, .slice a3 add.length c3, .slice a4 rem.length c4, .int .i64 mn] 54) = W0 at *
  refine G1.out.mono ?_
  rintro e W1 ⟨rfl, hb⟩
  have HB1 := hid (HB.out.trans (hb.mono HB.out.size))
  have HX1 := hid ((hb.block w.heap.size (by omega)).trans HX.out)
  have hs1 : w.heap.size + 1 ≤ W1.heap.size := by have := hb.size; omega
  clear hb
  have k0 := cell_blk HX1.out 0 _ rfl
  have k1 := cell_blk HX1.out 1 _ rfl
  have k2 := cell_blk HX1.out 2 _ rfl
  have k3 := cell_blk HX1.out 3 _ rfl
  have k4 := cell_blk HX1.out 4 _ rfl
  have k5 := cell_blk HX1.out 5 _ rfl
  have k6 := cell_blk HX1.out 6 _ rfl
  have k7 := cell_blk HX1.out 7 _ rfl
  have k8 := cell_blk HX1.out 8 _ rfl
  cases B1
  · go_wp2_with fail
    go_ret
    exact ⟨by first | rfl | simp, HB1.out⟩
  go_wp2_with fail
  refine (G2.out _ HB1.out).mono ?_
  rintro e W2 ⟨rfl, hb⟩
  have HB2 := hid (HB1.out.trans (hb.mono HB1.out.size))
  have HX2 := hid ((hb.block w.heap.size (by omega)).trans HX1.out)
  clear hb
  have l1 := cell_blk HX2.out 1 _ rfl
  have l4 := cell_blk HX2.out 4 _ rfl
  cases B2
  · go_wp2_with fail
    go_ret
    exact ⟨by first | rfl | simp, HB2.out⟩
  by_cases h0 : ld = 0
  · subst h0
    go_wp2_with fail
    go_ret
    exact ⟨ret_bool (by simp), HB2.out⟩
  · go_wp2_with fail
    refine (G3.out _ HB2.out).mono ?_
    rintro e w1 ⟨rfl, rfl⟩
    go_wp2_with fail
    go_ret
    exact ⟨ret_bool (by simp [h0]), HB2.out⟩
end Go.Proofs.YtcffomhcmilcpaaGreat
