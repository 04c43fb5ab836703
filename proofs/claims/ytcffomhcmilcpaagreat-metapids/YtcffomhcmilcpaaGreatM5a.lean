/- Whether the lists are right. -/
import Derived.Test.YtcffomhcmilcpaaGreatM5
namespace Go.Proofs.YtcffomhcmilcpaaGreat
open Go.RowKit Go.Maps
set_option linter.unusedSimpArgs false
set_option linter.unusedVariables false
set_option maxRecDepth 100000

theorem lb1 (a b c d e : Bool) (n m : Nat) : (a && decide (0 < n) && b && c && d && e && decide (0 < m)) = (a && (decide (0 < n) && (b && (c && (d && (e && decide (0 < m))))))) := by simp only [Bool.and_assoc]
set_option maxHeartbeats 3200000 in
theorem lists_any {w : World} {v : Value} {p : Pt} (h : PartM w v p) : Calls Tryz.prog 137 #[v] w fun e w' => e = .returned (.bool (listB p)) ∧ Below w.heap.size w w' := by
  obtain ⟨id, ld, ep, vr, isr, reps, add, rem, mn⟩ := p
  obtain ⟨a1, c1, a2, c2, a3, c3, a4, c4, rfl, q1, q2, q3, q4, i0, i1, i2, i3, i4⟩ := h.open
  simp only at q1 q2 q3 q4 i0 i1 i2 i3 i4 ⊢
  have Q1 := hid q1
  have Q2 := hid q2
  have Q3 := hid q3
  have Q4 := hid q4
  clear h q1 q2 q3 q4
  have HX : Hid ((w.alloc (.cells #[.int .i64 id, .int .i64 ld, .int .i64 ep, .int .i64 vr, .slice a1 isr.length c1, .slice a2 reps.length c2, .slice a3 add.length c3, .slice a4 rem.length c4, .int .i64 mn] 54)).heap[w.heap.size]? = some (.cells #[.int .i64 id, .int .i64 ld, .int .i64 ep, .int .i64 vr, .slice a1 isr.length c1, .slice a2 reps.length c2, .slice a3 add.length c3, .slice a4 rem.length c4, .int .i64 mn] 54)) := heap_alloc_new w _
  have HB : Hid (Below w.heap.size w (w.alloc (.cells #[.int .i64 id, .int .i64 ld, .int .i64 ep, .int .i64 vr, .slice a1 isr.length c1, .slice a2 reps.length c2, .slice a3 add.length c3, .slice a4 rem.length c4, .int .i64 mn] 54))) := (Below.refl _ _).alloc (Nat.le_refl _) _
  have hsz : (w.alloc (.cells #[.int .i64 id, .int .i64 ld, .int .i64 ep, .int .i64 vr, .slice a1 isr.length c1, .slice a2 reps.length c2, .slice a3 add.length c3, .slice a4 rem.length c4, .int .i64 mn] 54)).heap.size = w.heap.size + 1 := by simp
  have HN : Hid (listB ⟨id, ld, ep, vr, isr, reps, add, rem, mn⟩ = (eachB ⟨id, ld, ep, vr, isr, reps, add, rem, mn⟩ && (decide (0 < isr.length) && (isr.all (hasB reps) && (add.all (hasB reps) && (rem.all (hasB reps) && (rem.all (lackB add) && decide (0 < (outL reps rem).length)))))))) := lb1 _ _ _ _ _ _ _
  have HP : Hid (∀ W, Below w.heap.size w W → PartM W (.agg #[.int .i64 id, .int .i64 ld, .int .i64 ep, .int .i64 vr, .slice a1 isr.length c1, .slice a2 reps.length c2, .slice a3 add.length c3, .slice a4 rem.length c4, .int .i64 mn]) ⟨id, ld, ep, vr, isr, reps, add, rem, mn⟩) := fun W hb => ⟨_, _, _, _, rfl, Q1.out.under hb, Q2.out.under hb, Q3.out.under hb, Q4.out.under hb, i0, i1, i2, i3, i4⟩
  have G1 := hid (each_any (HP.out _ HB.out))
  have G2 : Hid (∀ W, Below w.heap.size w W → Calls Tryz.prog 169 #[.slice a1 isr.length c1, .func (.func 138) #[] #[], .slice a2 reps.length c2] W fun e w' => e = .returned (.bool (isr.all (hasB reps))) ∧ W = w') := fun W hb => areAll39_any (Q1.out.under hb) (Q2.out.under hb)
  have G3 : Hid (∀ W, Below w.heap.size w W → Calls Tryz.prog 169 #[.slice a3 add.length c3, .func (.func 138) #[] #[], .slice a2 reps.length c2] W fun e w' => e = .returned (.bool (add.all (hasB reps))) ∧ W = w') := fun W hb => areAll39_any (Q3.out.under hb) (Q2.out.under hb)
  have G4 : Hid (∀ W, Below w.heap.size w W → Calls Tryz.prog 169 #[.slice a4 rem.length c4, .func (.func 138) #[] #[], .slice a2 reps.length c2] W fun e w' => e = .returned (.bool (rem.all (hasB reps))) ∧ W = w') := fun W hb => areAll39_any (Q4.out.under hb) (Q2.out.under hb)
  have G5 : Hid (∀ W, Below w.heap.size w W → Calls Tryz.prog 169 #[.slice a4 rem.length c4, .func (.func 158) #[] #[], .slice a3 add.length c3] W fun e w' => e = .returned (.bool (rem.all (lackB add))) ∧ W = w') := fun W hb => areAll50_any (Q4.out.under hb) (Q3.out.under hb)
  have G6 : Hid (∀ W, Below w.heap.size w W → Calls Tryz.prog 170 #[.agg #[.int .i64 id, .int .i64 ld, .int .i64 ep, .int .i64 vr, .slice a1 isr.length c1, .slice a2 reps.length c2, .slice a3 add.length c3, .slice a4 rem.length c4, .int .i64 mn]] W fun e w' => ∃ v', e = .returned v' ∧ IL w' v' (outL reps rem) ∧ Below W.heap.size W w') := fun W hb => targets_any (HP.out W hb)
  rw [HN.out]
  generalize eachB ⟨id, ld, ep, vr, isr, reps, add, rem, mn⟩ = B1 at *
  generalize isr.all (hasB reps) = B2 at *
  generalize add.all (hasB reps) = B3 at *
  generalize rem.all (hasB reps) = B4 at *
  generalize rem.all (lackB add) = B5 at *
  generalize outL reps rem = T at *
  clear HN i0 i1 i2 i3 i4 Q1 Q2 Q3 Q4
  go_enter Tryz.func137, Tryz.ntmps137
  go_wp2_with fail
  generalize w.alloc (.cells #[.int .i64 id, .int .i64 ld, .int .i64 ep, .int .i64 vr, .slice a1 isr.length c1, .slice a2 reps.length c2, .slice a3 add.length c3, .slice a4 rem.length c4, .int .i64 mn] 54) = W0 at *
  refine G1.out.mono ?_
  rintro e W1 ⟨rfl, hb⟩
  have HB1 := hid (HB.out.trans (hb.mono HB.out.size))
  have HX1 := hid ((hb.block w.heap.size (by omega)).trans HX.out)
  clear hb
  have k0 := cell_blk HX1.out 0 _ rfl
  have k1 := cell_blk HX1.out 1 _ rfl
  have k2 := cell_blk HX1.out 2 _ rfl
  have k3 := cell_blk HX1.out 3 _ rfl
  have k4 := cell_blk HX1.out 4 _ rfl
  have k5 := cell_blk HX1.out 5 _ rfl
  have k6 := cell_blk HX1.out 6 _ rfl
  have k7 := cell_blk HX1.out 7 _ rfl
  have k8 := cell_blk HX1.out 8 _ rfl
  cases B1
  · go_wp2_with fail
    go_ret
    exact ⟨by first | rfl | simp, HB1.out⟩
  by_cases h0 : 0 < isr.length
  · have h0' : (0 : Int) < (isr.length : Int) := by omega
    go_wp2_with fail
    refine (G2.out _ HB1.out).mono ?_
    rintro e w1 ⟨rfl, rfl⟩
    cases B2
    · go_wp2_with fail
      go_ret
      exact ⟨ret_bool (by simp), HB1.out⟩
    go_wp2_with fail
    refine (G3.out _ HB1.out).mono ?_
    rintro e w1 ⟨rfl, rfl⟩
    cases B3
    · go_wp2_with fail
      go_ret
      exact ⟨ret_bool (by simp), HB1.out⟩
    go_wp2_with fail
    refine (G4.out _ HB1.out).mono ?_
    rintro e w1 ⟨rfl, rfl⟩
    cases B4
    · go_wp2_with fail
      go_ret
      exact ⟨ret_bool (by simp), HB1.out⟩
    go_wp2_with fail
    refine (G5.out _ HB1.out).mono ?_
    rintro e w1 ⟨rfl, rfl⟩
    cases B5
    · go_wp2_with fail
      go_ret
      exact ⟨ret_bool (by simp), HB1.out⟩
    go_wp2_with fail
    refine (G6.out _ HB1.out).mono ?_
    rintro e W2 ⟨v', rfl, hv, hb⟩
    obtain ⟨va, vc, rfl, _⟩ := hv.shape
    have HB2 := hid (HB1.out.trans (hb.mono HB1.out.size))
    clear hv hb
    go_wp2_with fail
    go_ret
    exact ⟨ret_bool (by simp [h0]), HB2.out⟩
  · have h0' : ¬ (0 : Int) < (isr.length : Int) := by omega
    go_wp2_with fail
    go_ret
    exact ⟨ret_bool (by simp [h0]), HB1.out⟩
end Go.Proofs.YtcffomhcmilcpaaGreat
