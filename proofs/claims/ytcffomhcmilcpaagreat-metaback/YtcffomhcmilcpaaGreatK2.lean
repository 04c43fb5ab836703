/- Whether a state is right. -/
import Derived.Test.YtcffomhcmilcpaaGreatK1
namespace Go.Proofs.YtcffomhcmilcpaaGreat
open Go.RowKit Go.Maps
set_option linter.unusedSimpArgs false
set_option linter.unusedVariables false
set_option maxRecDepth 100000

theorem PartM.open {w : World} {v : Value} {p : Pt} (h : PartM w v p) : ∃ a1 c1 a2 c2 a3 c3 a4 c4, v = .agg #[.int .i64 p.id, .int .i64 p.leader, .int .i64 p.epoch, .int .i64 p.ver, .slice a1 p.isr.length c1, .slice a2 p.reps.length c2, .slice a3 p.add.length c3, .slice a4 p.rem.length c4, .int .i64 p.min] ∧ IL w (.slice a1 p.isr.length c1) p.isr ∧ IL w (.slice a2 p.reps.length c2) p.reps ∧ IL w (.slice a3 p.add.length c3) p.add ∧ IL w (.slice a4 p.rem.length c4) p.rem ∧ I64 p.id ∧ I64 p.leader ∧ I64 p.epoch ∧ I64 p.ver ∧ I64 p.min := by
  obtain ⟨a, b, c, d, rfl, h1, h2, h3, h4, h5⟩ := h
  obtain ⟨a1, c1, rfl, _⟩ := h1.shape
  obtain ⟨a2, c2, rfl, _⟩ := h2.shape
  obtain ⟨a3, c3, rfl, _⟩ := h3.shape
  obtain ⟨a4, c4, rfl, _⟩ := h4.shape
  exact ⟨a1, c1, a2, c2, a3, c3, a4, c4, rfl, h1, h2, h3, h4, h5⟩
theorem big64 : I64 1000000000 := by unfold I64; omega
set_option maxHeartbeats 1600000 in
theorem nums_any {w : World} {v : Value} {p : Pt} (h : PartM w v p) : Calls Tryz.prog 136 #[v] w fun e w' => e = .returned (.bool (numB p)) ∧ Below w.heap.size w w' := by
  obtain ⟨id, ld, ep, vr, isr, reps, add, rem, mn⟩ := p
  obtain ⟨a1, c1, a2, c2, a3, c3, a4, c4, rfl, q1, q2, q3, q4, i0, i1, i2, i3, i4⟩ := h.open
  simp only at q1 q2 q3 q4 i0 i1 i2 i3 i4 ⊢
  have Q1 := hid q1
  have Q2 := hid q2
  have Q3 := hid q3
  have Q4 := hid q4
  clear h q1 q2 q3 q4
  have HX : Hid ((w.alloc (.cells #[.int .i64 id, .int .i64 ld, .int .i64 ep, .int .i64 vr, .slice a1 isr.length c1, .slice a2 reps.length c2, .slice a3 add.length c3, .slice a4 rem.length c4, .int .i64 mn] 54)).heap[w.heap.size]? = some (.cells #[.int .i64 id, .int .i64 ld, .int .i64 ep, .int .i64 vr, .slice a1 isr.length c1, .slice a2 reps.length c2, .slice a3 add.length c3, .slice a4 rem.length c4, .int .i64 mn] 54)) := heap_alloc_new w _
  have HB : Hid (Below w.heap.size w (w.alloc (.cells #[.int .i64 id, .int .i64 ld, .int .i64 ep, .int .i64 vr, .slice a1 isr.length c1, .slice a2 reps.length c2, .slice a3 add.length c3, .slice a4 rem.length c4, .int .i64 mn] 54))) := (Below.refl _ _).alloc (Nat.le_refl _) _
  have hsz : (w.alloc (.cells #[.int .i64 id, .int .i64 ld, .int .i64 ep, .int .i64 vr, .slice a1 isr.length c1, .slice a2 reps.length c2, .slice a3 add.length c3, .slice a4 rem.length c4, .int .i64 mn] 54)).heap.size = w.heap.size + 1 := by simp
  have HN : Hid (numB ⟨id, ld, ep, vr, isr, reps, add, rem, mn⟩ = (upB id 16 && upB mn 5 && upB ep 1000000000 && upB vr 1000000000)) := rfl
  have G1 := hid (fun W => isUpTo_any id 16 W i0 (by unfold I64; omega))
  have G2 := hid (fun W => isUpTo_any mn 5 W i4 (by unfold I64; omega))
  have G3 := hid (fun W => isUpTo_any ep 1000000000 W i2 big64)
  have G4 := hid (fun W => isUpTo_any vr 1000000000 W i3 big64)
  rw [HN.out]
  generalize upB id 16 = B1 at *
  generalize upB mn 5 = B2 at *
  generalize upB ep 1000000000 = B3 at *
  generalize upB vr 1000000000 = B4 at *
  clear HN i0 i1 i2 i3 i4
  go_enter Tryz.func136, Tryz.ntmps136
  go_wp2_with fail
  refine (G1.out _).mono ?_
  rintro e w1 ⟨rfl, rfl⟩
  cases B1
  · go_wp2_with fail
    go_ret
    exact ⟨by first | rfl | simp, HB.out⟩
  go_wp2_with fail
  refine (G2.out _).mono ?_
  rintro e w1 ⟨rfl, rfl⟩
  cases B2
  · go_wp2_with fail
    go_ret
    exact ⟨by first | rfl | simp, HB.out⟩
  go_wp2_with fail
  refine (G3.out _).mono ?_
  rintro e w1 ⟨rfl, rfl⟩
  cases B3
  · go_wp2_with fail
    go_ret
    exact ⟨by first | rfl | simp, HB.out⟩
  go_wp2_with fail
  refine (G4.out _).mono ?_
  rintro e w1 ⟨rfl, rfl⟩
  go_wp2_with fail
  go_ret
  exact ⟨by simp, HB.out⟩

set_option maxHeartbeats 1600000 in
theorem each_any {w : World} {v : Value} {p : Pt} (h : PartM w v p) : Calls Tryz.prog 167 #[v, .func (.func 168) #[] #[]] w fun e w' => e = .returned (.bool (eachB p)) ∧ Below w.heap.size w w' := by
  obtain ⟨id, ld, ep, vr, isr, reps, add, rem, mn⟩ := p
  obtain ⟨a1, c1, a2, c2, a3, c3, a4, c4, rfl, q1, q2, q3, q4, i0, i1, i2, i3, i4⟩ := h.open
  simp only at q1 q2 q3 q4 i0 i1 i2 i3 i4 ⊢
  have Q1 := hid q1
  have Q2 := hid q2
  have Q3 := hid q3
  have Q4 := hid q4
  clear h q1 q2 q3 q4
  have HX : Hid ((w.alloc (.cells #[.int .i64 id, .int .i64 ld, .int .i64 ep, .int .i64 vr, .slice a1 isr.length c1, .slice a2 reps.length c2, .slice a3 add.length c3, .slice a4 rem.length c4, .int .i64 mn] 54)).heap[w.heap.size]? = some (.cells #[.int .i64 id, .int .i64 ld, .int .i64 ep, .int .i64 vr, .slice a1 isr.length c1, .slice a2 reps.length c2, .slice a3 add.length c3, .slice a4 rem.length c4, .int .i64 mn] 54)) := heap_alloc_new w _
  have HB : Hid (Below w.heap.size w (w.alloc (.cells #[.int .i64 id, .int .i64 ld, .int .i64 ep, .int .i64 vr, .slice a1 isr.length c1, .slice a2 reps.length c2, .slice a3 add.length c3, .slice a4 rem.length c4, .int .i64 mn] 54))) := (Below.refl _ _).alloc (Nat.le_refl _) _
  have hsz : (w.alloc (.cells #[.int .i64 id, .int .i64 ld, .int .i64 ep, .int .i64 vr, .slice a1 isr.length c1, .slice a2 reps.length c2, .slice a3 add.length c3, .slice a4 rem.length c4, .int .i64 mn] 54)).heap.size = w.heap.size + 1 := by simp
  have HN : Hid (eachB ⟨id, ld, ep, vr, isr, reps, add, rem, mn⟩ = (idsB isr && idsB reps && idsB add && idsB rem)) := rfl
  have G1 : Hid (∀ W, Below w.heap.size w W → Calls Tryz.prog 168 #[.slice a1 isr.length c1] W fun e w' => e = .returned (.bool (idsB isr)) ∧ Below W.heap.size W w') := fun W hb => areRight_any (Q1.out.under hb)
  have G2 : Hid (∀ W, Below w.heap.size w W → Calls Tryz.prog 168 #[.slice a2 reps.length c2] W fun e w' => e = .returned (.bool (idsB reps)) ∧ Below W.heap.size W w') := fun W hb => areRight_any (Q2.out.under hb)
  have G3 : Hid (∀ W, Below w.heap.size w W → Calls Tryz.prog 168 #[.slice a3 add.length c3] W fun e w' => e = .returned (.bool (idsB add)) ∧ Below W.heap.size W w') := fun W hb => areRight_any (Q3.out.under hb)
  have G4 : Hid (∀ W, Below w.heap.size w W → Calls Tryz.prog 168 #[.slice a4 rem.length c4] W fun e w' => e = .returned (.bool (idsB rem)) ∧ Below W.heap.size W w') := fun W hb => areRight_any (Q4.out.under hb)
  rw [HN.out]
  generalize idsB isr = B1 at *
  generalize idsB reps = B2 at *
  generalize idsB add = B3 at *
  generalize idsB rem = B4 at *
  clear HN i0 i1 i2 i3 i4 Q1 Q2 Q3 Q4
  go_enter Tryz.func167, Tryz.ntmps167
  go_wp2_with fail
  generalize w.alloc (.cells #[.int .i64 id, .int .i64 ld, .int .i64 ep, .int .i64 vr, .slice a1 isr.length c1, .slice a2 reps.length c2, .slice a3 add.length c3, .slice a4 rem.length c4, .int .i64 mn] 54) = W0 at *
  refine (G1.out W0 HB.out).mono ?_
  rintro e W1 ⟨rfl, hb⟩
  have HB1 := hid (HB.out.trans (hb.mono HB.out.size))
  have HX1 := hid ((hb.block w.heap.size (by omega)).trans HX.out)
  have k := cell_blk HX1.out 5 _ rfl
  have hsz1 : w.heap.size + 1 ≤ W1.heap.size := by have := hb.size; omega
  clear hb
  cases B1
  · go_wp2_with fail
    go_ret
    exact ⟨by first | rfl | simp, HB1.out⟩
  go_wp2_with fail
  refine (G2.out W1 HB1.out).mono ?_
  rintro e W2 ⟨rfl, hb⟩
  have HB2 := hid (HB1.out.trans (hb.mono HB1.out.size))
  have HX2 := hid ((hb.block w.heap.size (by omega)).trans HX1.out)
  have k := cell_blk HX2.out 6 _ rfl
  have hsz2 : w.heap.size + 1 ≤ W2.heap.size := by have := hb.size; omega
  clear hb
  cases B2
  · go_wp2_with fail
    go_ret
    exact ⟨by first | rfl | simp, HB2.out⟩
  go_wp2_with fail
  refine (G3.out W2 HB2.out).mono ?_
  rintro e W3 ⟨rfl, hb⟩
  have HB3 := hid (HB2.out.trans (hb.mono HB2.out.size))
  have HX3 := hid ((hb.block w.heap.size (by omega)).trans HX2.out)
  have k := cell_blk HX3.out 7 _ rfl
  have hsz3 : w.heap.size + 1 ≤ W3.heap.size := by have := hb.size; omega
  clear hb
  cases B3
  · go_wp2_with fail
    go_ret
    exact ⟨by first | rfl | simp, HB3.out⟩
  go_wp2_with fail
  refine (G4.out W3 HB3.out).mono ?_
  rintro e W4 ⟨rfl, hb⟩
  have HB4 := hid (HB3.out.trans (hb.mono HB3.out.size))
  have HX4 := hid ((hb.block w.heap.size (by omega)).trans HX3.out)
  go_wp2_with fail
  go_ret
  exact ⟨by simp, HB4.out⟩
end Go.Proofs.YtcffomhcmilcpaaGreat

/- The targets; whether the lists are right; Right. -/
namespace Go.Proofs.YtcffomhcmilcpaaGreat
open Go.RowKit Go.Maps
set_option linter.unusedSimpArgs false
set_option linter.unusedVariables false
set_option maxRecDepth 100000

set_option maxHeartbeats 1600000 in
theorem targets_any {w : World} {v : Value} {p : Pt} (h : PartM w v p) : Calls Tryz.prog 170 #[v] w fun e w' => ∃ v', e = .returned v' ∧ IL w' v' (outL p.reps p.rem) ∧ Below w.heap.size w w' := by
  obtain ⟨id, ld, ep, vr, isr, reps, add, rem, mn⟩ := p
  obtain ⟨a1, c1, a2, c2, a3, c3, a4, c4, rfl, q1, q2, q3, q4, i0, i1, i2, i3, i4⟩ := h.open
  simp only at q1 q2 q3 q4 i0 i1 i2 i3 i4 ⊢
  have Q1 := hid q1
  have Q2 := hid q2
  have Q3 := hid q3
  have Q4 := hid q4
  clear h q1 q2 q3 q4
  have HX : Hid ((w.alloc (.cells #[.int .i64 id, .int .i64 ld, .int .i64 ep, .int .i64 vr, .slice a1 isr.length c1, .slice a2 reps.length c2, .slice a3 add.length c3, .slice a4 rem.length c4, .int .i64 mn] 54)).heap[w.heap.size]? = some (.cells #[.int .i64 id, .int .i64 ld, .int .i64 ep, .int .i64 vr, .slice a1 isr.length c1, .slice a2 reps.length c2, .slice a3 add.length c3, .slice a4 rem.length c4, .int .i64 mn] 54)) := heap_alloc_new w _
  have HB : Hid (Below w.heap.size w (w.alloc (.cells #[.int .i64 id, .int .i64 ld, .int .i64 ep, .int .i64 vr, .slice a1 isr.length c1, .slice a2 reps.length c2, .slice a3 add.length c3, .slice a4 rem.length c4, .int .i64 mn] 54))) := (Below.refl _ _).alloc (Nat.le_refl _) _
  have hsz : (w.alloc (.cells #[.int .i64 id, .int .i64 ld, .int .i64 ep, .int .i64 vr, .slice a1 isr.length c1, .slice a2 reps.length c2, .slice a3 add.length c3, .slice a4 rem.length c4, .int .i64 mn] 54)).heap.size = w.heap.size + 1 := by simp
  have G1 := hid (those50_any (Q2.out.under HB.out) (Q4.out.under HB.out))
  clear i0 i1 i2 i3 i4 Q1 Q2 Q3 Q4
  go_enter Tryz.func170, Tryz.ntmps170
  go_wp2_with fail
  refine G1.out.mono ?_
  rintro e W1 ⟨v', rfl, hv, _, hb⟩
  obtain ⟨va, vc, rfl, _⟩ := hv.shape
  have HV := hid hv
  clear hv
  go_wp2_with fail
  go_ret
  exact ⟨_, rfl, HV.out, HB.out.trans (hb.mono HB.out.size)⟩
end Go.Proofs.YtcffomhcmilcpaaGreat

/- Whether the lists are right. -/
namespace Go.Proofs.YtcffomhcmilcpaaGreat
open Go.RowKit Go.Maps
set_option linter.unusedSimpArgs false
set_option linter.unusedVariables false
set_option maxRecDepth 100000

theorem lb1 (a b c d e : Bool) (n m : Nat) : (a && decide (0 < n) && b && c && d && e && decide (0 < m)) = (a && (decide (0 < n) && (b && (c && (d && (e && decide (0 < m))))))) := by simp only [Bool.and_assoc]
set_option maxHeartbeats 3200000 in
theorem lists_any {w : World} {v : Value} {p : Pt} (h : PartM w v p) : Calls Tryz.prog 137 #[v] w fun e w' => e = .returned (.bool (listB p)) ∧ Below w.heap.size w w' := by
  obtain ⟨id, ld, ep, vr, isr, reps, add, rem, mn⟩ := p
  obtain ⟨a1, c1, a2, c2, a3, c3, a4, c4, rfl, q1, q2, q3, q4, i0, i1, i2, i3, i4⟩ := h.open
  simp only at q1 q2 q3 q4 i0 i1 i2 i3 i4 ⊢
  have Q1 := hid q1
  have Q2 := hid q2
  have Q3 := hid q3
  have Q4 := hid q4
  clear h q1 q2 q3 q4
  have HX : Hid ((w.alloc (.cells #[.int .i64 id, .int .i64 ld, .int .i64 ep, .int .i64 vr, .slice a1 isr.length c1, .slice a2 reps.length c2, .slice a3 add.length c3, .slice a4 rem.length c4, .int .i64 mn] 54)).heap[w.heap.size]? = some (.cells #[.int .i64 id, .int .i64 ld, .int .i64 ep, .int .i64 vr, .slice a1 isr.length c1, .slice a2 reps.length c2, .slice a3 add.length c3, .slice a4 rem.length c4, .int .i64 mn] 54)) := heap_alloc_new w _
  have HB : Hid (Below w.heap.size w (w.alloc (.cells #[.int .i64 id, .int .i64 ld, .int .i64 ep, .int .i64 vr, .slice a1 isr.length c1, .slice a2 reps.length c2, .slice a3 add.length c3, .slice a4 rem.length c4, .int .i64 mn] 54))) := (Below.refl _ _).alloc (Nat.le_refl _) _
  have hsz : (w.alloc (.cells #[.int .i64 id, .int .i64 ld, .int .i64 ep, .int .i64 vr, .slice a1 isr.length c1, .slice a2 reps.length c2, .slice a3 add.length c3, .slice a4 rem.length c4, .int .i64 mn] 54)).heap.size = w.heap.size + 1 := by simp
  have HN : Hid (listB ⟨id, ld, ep, vr, isr, reps, add, rem, mn⟩ = (eachB ⟨id, ld, ep, vr, isr, reps, add, rem, mn⟩ && (decide (0 < isr.length) && (isr.all (hasB reps) && (add.all (hasB reps) && (rem.all (hasB reps) && (rem.all (lackB add) && decide (0 < (outL reps rem).length)))))))) := lb1 _ _ _ _ _ _ _
  have HP : Hid (∀ W, Below w.heap.size w W → PartM W (.agg #[.int .i64 id, .int .i64 ld, .int .i64 ep, .int .i64 vr, .slice a1 isr.length c1, .slice a2 reps.length c2, .slice a3 add.length c3, .slice a4 rem.length c4, .int .i64 mn]) ⟨id, ld, ep, vr, isr, reps, add, rem, mn⟩) := fun W hb => ⟨_, _, _, _, rfl, Q1.out.under hb, Q2.out.under hb, Q3.out.under hb, Q4.out.under hb, i0, i1, i2, i3, i4⟩
  have G1 := hid (each_any (HP.out _ HB.out))
  have G2 : Hid (∀ W, Below w.heap.size w W → Calls Tryz.prog 169 #[.slice a1 isr.length c1, .func (.func 138) #[] #[], .slice a2 reps.length c2] W fun e w' => e = .returned (.bool (isr.all (hasB reps))) ∧ W = w') := fun W hb => areAll39_any (Q1.out.under hb) (Q2.out.under hb)
  have G3 : Hid (∀ W, Below w.heap.size w W → Calls Tryz.prog 169 #[.slice a3 add.length c3, .func (.func 138) #[] #[], .slice a2 reps.length c2] W fun e w' => e = .returned (.bool (add.all (hasB reps))) ∧ W = w') := fun W hb => areAll39_any (Q3.out.under hb) (Q2.out.under hb)
  have G4 : Hid (∀ W, Below w.heap.size w W → Calls Tryz.prog 169 #[.slice a4 rem.length c4, .func (.func 138) #[] #[], .slice a2 reps.length c2] W fun e w' => e = .returned (.bool (rem.all (hasB reps))) ∧ W = w') := fun W hb => areAll39_any (Q4.out.under hb) (Q2.out.under hb)
  have G5 : Hid (∀ W, Below w.heap.size w W → Calls Tryz.prog 169 #[.slice a4 rem.length c4, .func (.func 158) #[] #[], .slice a3 add.length c3] W fun e w' => e = .returned (.bool (rem.all (lackB add))) ∧ W = w') := fun W hb => areAll50_any (Q4.out.under hb) (Q3.out.under hb)
  have G6 : Hid (∀ W, Below w.heap.size w W → Calls Tryz.prog 170 #[.agg #[.int .i64 id, .int .i64 ld, .int .i64 ep, .int .i64 vr, .slice a1 isr.length c1, .slice a2 reps.length c2, .slice a3 add.length c3, .slice a4 rem.length c4, .int .i64 mn]] W fun e w' => ∃ v', e = .returned v' ∧ IL w' v' (outL reps rem) ∧ Below W.heap.size W w') := fun W hb => targets_any (HP.out W hb)
  rw [HN.out]
  generalize eachB ⟨id, ld, ep, vr, isr, reps, add, rem, mn⟩ = B1 at *
  generalize isr.all (hasB reps) = B2 at *
  generalize add.all (hasB reps) = B3 at *
  generalize rem.all (hasB reps) = B4 at *
  generalize rem.all (lackB add) = B5 at *
  generalize outL reps rem = T at *
  clear HN i0 i1 i2 i3 i4 Q1 Q2 Q3 Q4
  go_enter Tryz.func137, Tryz.ntmps137
  go_wp2_with fail
  generalize w.alloc (.cells #[.int .i64 id, .int .i64 ld, .int .i64 ep, .int .i64 vr, .slice a1 isr.length c1, .slice a2 reps.length c2, .slice a3 add.length c3, .slice a4 rem.length c4, .int .i64 mn] 54) = W0 at *
  refine G1.out.mono ?_
  rintro e W1 ⟨rfl, hb⟩
  have HB1 := hid (HB.out.trans (hb.mono HB.out.size))
  have HX1 := hid ((hb.block w.heap.size (by omega)).trans HX.out)
  clear hb
  have k0 := cell_blk HX1.out 0 _ rfl
  have k1 := cell_blk HX1.out 1 _ rfl
  have k2 := cell_blk HX1.out 2 _ rfl
  have k3 := cell_blk HX1.out 3 _ rfl
  have k4 := cell_blk HX1.out 4 _ rfl
  have k5 := cell_blk HX1.out 5 _ rfl
  have k6 := cell_blk HX1.out 6 _ rfl
  have k7 := cell_blk HX1.out 7 _ rfl
  have k8 := cell_blk HX1.out 8 _ rfl
  cases B1
  · go_wp2_with fail
    go_ret
    exact ⟨by first | rfl | simp, HB1.out⟩
  by_cases h0 : 0 < isr.length
  · have h0' : (0 : Int) < (isr.length : Int) := by omega
    go_wp2_with fail
    refine (G2.out _ HB1.out).mono ?_
    rintro e w1 ⟨rfl, rfl⟩
    cases B2
    · go_wp2_with fail
      go_ret
      exact ⟨ret_bool (by simp), HB1.out⟩
    go_wp2_with fail
    refine (G3.out _ HB1.out).mono ?_
    rintro e w1 ⟨rfl, rfl⟩
    cases B3
    · go_wp2_with fail
      go_ret
      exact ⟨ret_bool (by simp), HB1.out⟩
    go_wp2_with fail
    refine (G4.out _ HB1.out).mono ?_
    rintro e w1 ⟨rfl, rfl⟩
    cases B4
    · go_wp2_with fail
      go_ret
      exact ⟨ret_bool (by simp), HB1.out⟩
    go_wp2_with fail
    refine (G5.out _ HB1.out).mono ?_
    rintro e w1 ⟨rfl, rfl⟩
    cases B5
    · go_wp2_with fail
      go_ret
      exact ⟨ret_bool (by simp), HB1.out⟩
    go_wp2_with fail
    refine (G6.out _ HB1.out).mono ?_
    rintro e W2 ⟨v', rfl, hv, hb⟩
    obtain ⟨va, vc, rfl, _⟩ := hv.shape
    have HB2 := hid (HB1.out.trans (hb.mono HB1.out.size))
    clear hv hb
    go_wp2_with fail
    go_ret
    exact ⟨ret_bool (by simp [h0]), HB2.out⟩
  · have h0' : ¬ (0 : Int) < (isr.length : Int) := by omega
    go_wp2_with fail
    go_ret
    exact ⟨ret_bool (by simp [h0]), HB1.out⟩
end Go.Proofs.YtcffomhcmilcpaaGreat

/- Right. -/
namespace Go.Proofs.YtcffomhcmilcpaaGreat
open Go.RowKit Go.Maps
set_option linter.unusedSimpArgs false
set_option linter.unusedVariables false
set_option maxRecDepth 100000

set_option maxHeartbeats 3200000 in
theorem right_any {w : World} {v : Value} {p : Pt} (h : PartM w v p) : Calls Tryz.prog 96 #[v] w fun e w' => e = .returned (.bool (rightB p)) ∧ Below w.heap.size w w' := by
  obtain ⟨id, ld, ep, vr, isr, reps, add, rem, mn⟩ := p
  obtain ⟨a1, c1, a2, c2, a3, c3, a4, c4, rfl, q1, q2, q3, q4, i0, i1, i2, i3, i4⟩ := h.open
  simp only at q1 q2 q3 q4 i0 i1 i2 i3 i4 ⊢
  have Q1 := hid q1
  have Q2 := hid q2
  have Q3 := hid q3
  have Q4 := hid q4
  clear h q1 q2 q3 q4
  have HX : Hid ((w.alloc (.cells #[.int .i64 id, .int .i64 ld, .int .i64 ep, .int .i64 vr, .slice a1 isr.length c1, .slice a2 reps.length c2, .slice a3 add.length c3, .slice a4 rem.length c4, .int .i64 mn] 54)).heap[w.heap.size]? = some (.cells #[.int .i64 id, .int .i64 ld, .int .i64 ep, .int .i64 vr, .slice a1 isr.length c1, .slice a2 reps.length c2, .slice a3 add.length c3, .slice a4 rem.length c4, .int .i64 mn] 54)) := heap_alloc_new w _
  have HB : Hid (Below w.heap.size w (w.alloc (.cells #[.int .i64 id, .int .i64 ld, .int .i64 ep, .int .i64 vr, .slice a1 isr.length c1, .slice a2 reps.length c2, .slice a3 add.length c3, .slice a4 rem.length c4, .int .i64 mn] 54))) := (Below.refl _ _).alloc (Nat.le_refl _) _
  have hsz : (w.alloc (.cells #[.int .i64 id, .int .i64 ld, .int .i64 ep, .int .i64 vr, .slice a1 isr.length c1, .slice a2 reps.length c2, .slice a3 add.length c3, .slice a4 rem.length c4, .int .i64 mn] 54)).heap.size = w.heap.size + 1 := by simp
  have HN : Hid (rightB ⟨id, ld, ep, vr, isr, reps, add, rem, mn⟩ = (numB ⟨id, ld, ep, vr, isr, reps, add, rem, mn⟩ && listB ⟨id, ld, ep, vr, isr, reps, add, rem, mn⟩ && (decide (ld = 0) || hasB isr ld))) := rfl
  have HP : Hid (∀ W, Below w.heap.size w W → PartM W (.agg #[.int .i64 id, .int .i64 ld, .int .i64 ep, .int .i64 vr, .slice a1 isr.length c1, .slice a2 reps.length c2, .slice a3 add.length c3, .slice a4 rem.length c4, .int .i64 mn]) ⟨id, ld, ep, vr, isr, reps, add, rem, mn⟩) := fun W hb => ⟨_, _, _, _, rfl, Q1.out.under hb, Q2.out.under hb, Q3.out.under hb, Q4.out.under hb, i0, i1, i2, i3, i4⟩
  have G1 := hid (nums_any (HP.out _ HB.out))
  have G2 : Hid (∀ W, Below w.heap.size w W → Calls Tryz.prog 137 #[.agg #[.int .i64 id, .int .i64 ld, .int .i64 ep, .int .i64 vr, .slice a1 isr.length c1, .slice a2 reps.length c2, .slice a3 add.length c3, .slice a4 rem.length c4, .int .i64 mn]] W fun e w' => e = .returned (.bool (listB ⟨id, ld, ep, vr, isr, reps, add, rem, mn⟩)) ∧ Below W.heap.size W w') := fun W hb => lists_any (HP.out W hb)
  have G3 : Hid (∀ W, Below w.heap.size w W → Calls Tryz.prog 138 #[.slice a1 isr.length c1, .int .i64 ld] W fun e w' => e = .returned (.bool (hasB isr ld)) ∧ W = w') := fun W hb => has_any (Q1.out.under hb) ld i1
  rw [HN.out]
  generalize numB ⟨id, ld, ep, vr, isr, reps, add, rem, mn⟩ = B1 at *
  generalize listB ⟨id, ld, ep, vr, isr, reps, add, rem, mn⟩ = B2 at *
  generalize hasB isr ld = B3 at *
  clear HN i0 i1 i2 i3 i4 Q1 Q2 Q3 Q4
  go_enter Tryz.func96, Tryz.ntmps96
  go_wp2_with fail
  generalize w.alloc (.cells #[.int .i64 id, .int .i64 ld, .int .i64 ep, .int .i64 vr, .slice a1 isr.length c1, .slice a2 reps.length c2, .slice a3 add.length c3, .slice a4 rem.length c4, .int .i64 mn] 54) = W0 at *
  refine G1.out.mono ?_
  rintro e W1 ⟨rfl, hb⟩
  have HB1 := hid (HB.out.trans (hb.mono HB.out.size))
  have HX1 := hid ((hb.block w.heap.size (by omega)).trans HX.out)
  have hs1 : w.heap.size + 1 ≤ W1.heap.size := by have := hb.size; omega
  clear hb
  have k0 := cell_blk HX1.out 0 _ rfl
  have k1 := cell_blk HX1.out 1 _ rfl
  have k2 := cell_blk HX1.out 2 _ rfl
  have k3 := cell_blk HX1.out 3 _ rfl
  have k4 := cell_blk HX1.out 4 _ rfl
  have k5 := cell_blk HX1.out 5 _ rfl
  have k6 := cell_blk HX1.out 6 _ rfl
  have k7 := cell_blk HX1.out 7 _ rfl
  have k8 := cell_blk HX1.out 8 _ rfl
  cases B1
  · go_wp2_with fail
    go_ret
    exact ⟨by first | rfl | simp, HB1.out⟩
  go_wp2_with fail
  refine (G2.out _ HB1.out).mono ?_
  rintro e W2 ⟨rfl, hb⟩
  have HB2 := hid (HB1.out.trans (hb.mono HB1.out.size))
  have HX2 := hid ((hb.block w.heap.size (by omega)).trans HX1.out)
  clear hb
  have l1 := cell_blk HX2.out 1 _ rfl
  have l4 := cell_blk HX2.out 4 _ rfl
  cases B2
  · go_wp2_with fail
    go_ret
    exact ⟨by first | rfl | simp, HB2.out⟩
  by_cases h0 : ld = 0
  · subst h0
    go_wp2_with fail
    go_ret
    exact ⟨ret_bool (by simp), HB2.out⟩
  · go_wp2_with fail
    refine (G3.out _ HB2.out).mono ?_
    rintro e w1 ⟨rfl, rfl⟩
    go_wp2_with fail
    go_ret
    exact ⟨ret_bool (by simp [h0]), HB2.out⟩
end Go.Proofs.YtcffomhcmilcpaaGreat

