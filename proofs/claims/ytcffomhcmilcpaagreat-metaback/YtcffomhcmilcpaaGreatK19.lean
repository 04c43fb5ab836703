/- Elect, Back. -/
import Derived.Test.YtcffomhcmilcpaaGreatK5
namespace Go.Proofs.YtcffomhcmilcpaaGreat
open Go.RowKit Go.Maps
set_option linter.unusedSimpArgs false
set_option linter.unusedVariables false
set_option maxRecDepth 100000

set_option maxHeartbeats 6400000 in
theorem elect_any {w : World} {v : Value} {p : Pt} (h : PartM w v p) (l : Int) (hl : I64 l) :
    Calls Tryz.prog 187 #[v, .int .i64 l] w fun e w' => Res (fun b => w.heap.size ≤ b) w (electP p l) e w' := by
  obtain ⟨id, ld, ep, vr, isr, reps, add, rem, mn⟩ := p
  obtain ⟨a1, c1, a2, c2, a3, c3, a4, c4, rfl, q1, q2, q3, q4, i0, i1, i2, i3, i4⟩ := h.open
  simp only at q1 q2 q3 q4 i0 i1 i2 i3 i4 ⊢
  have Q1 := hid q1
  have Q2 := hid q2
  have Q3 := hid q3
  have Q4 := hid q4
  clear h q1 q2 q3 q4
  have HT0 := hid (two_new w #[.int .i64 id, .int .i64 ld, .int .i64 ep, .int .i64 vr, .slice a1 isr.length c1, .slice a2 reps.length c2, .slice a3 add.length c3, .slice a4 rem.length c4, .int .i64 mn] #[.int .i64 0, .int .i64 0, .int .i64 0, .int .i64 0, .slice none 0 0, .slice none 0 0, .slice none 0 0, .slice none 0 0, .int .i64 0])
  have G12 : Hid (∀ W, Below w.heap.size w W → Calls Tryz.prog 96 #[.agg #[.int .i64 id, .int .i64 ld, .int .i64 ep, .int .i64 vr, .slice a1 isr.length c1, .slice a2 reps.length c2, .slice a3 add.length c3, .slice a4 rem.length c4, .int .i64 mn]] W fun e w' => e = .returned (.bool (rightB ⟨id, ld, ep, vr, isr, reps, add, rem, mn⟩)) ∧ Below W.heap.size W w') := fun W hb => right_any ⟨_, _, _, _, rfl, Q1.out.under hb, Q2.out.under hb, Q3.out.under hb, Q4.out.under hb, i0, i1, i2, i3, i4⟩
  have G15 : Hid (∀ W, Below w.heap.size w W → Calls Tryz.prog 62 #[.agg #[.int .i64 id, .int .i64 ld, .int .i64 ep, .int .i64 vr, .slice a1 isr.length c1, .slice a2 reps.length c2, .slice a3 add.length c3, .slice a4 rem.length c4, .int .i64 mn]] W fun e w' => ∃ v', e = .returned v' ∧ PartM w' v' ⟨id, ld, ep, vr, isr, reps, add, rem, mn⟩ ∧ InP (fun b => W.heap.size ≤ b) v' ⟨id, ld, ep, vr, isr, reps, add, rem, mn⟩ ∧ Below W.heap.size W w') := fun W hb => clone_any ⟨_, _, _, _, rfl, Q1.out.under hb, Q2.out.under hb, Q3.out.under hb, Q4.out.under hb, i0, i1, i2, i3, i4⟩
  have G58 := hid (fun W => isBroker_any l W hl)
  have G50 : Hid (∀ W, Below w.heap.size w W → Calls Tryz.prog 158 #[.slice a1 isr.length c1, .int .i64 l] W fun e w' => e = .returned (.bool (lackB isr l)) ∧ W = w') := fun W hb => lacks_any (Q1.out.under hb) l hl
  have HE : Hid (electP ⟨id, ld, ep, vr, isr, reps, add, rem, mn⟩ l = if !rightB ⟨id, ld, ep, vr, isr, reps, add, rem, mn⟩ || (!decide (l = 0) && !upB l 7) then (Pt.zero, 1) else if !decide (l = 0) && lackB isr l then (Pt.zero, 19) else if l = ld then (⟨id, ld, ep, vr, isr, reps, add, rem, mn⟩, 0) else changedP ⟨id, ld, ep, vr, isr, reps, add, rem, mn⟩ l) := rfl
  have HBD : Hid (rightB ⟨id, ld, ep, vr, isr, reps, add, rem, mn⟩ = true → (1 ≤ ep ∧ ep ≤ 1000000000) ∧ (1 ≤ vr ∧ vr ≤ 1000000000)) := fun e => ⟨(rightB_iff.1 e).epoch, (rightB_iff.1 e).ver⟩
  generalize electP ⟨id, ld, ep, vr, isr, reps, add, rem, mn⟩ l = r at *
  generalize hc : changedP ⟨id, ld, ep, vr, isr, reps, add, rem, mn⟩ l = r2 at *
  obtain ⟨⟨rid, rld, rep, rvr, rl1, rl2, rl3, rl4, rmn⟩, re⟩ := r2
  have HC := hid hc
  generalize rightB ⟨id, ld, ep, vr, isr, reps, add, rem, mn⟩ = B1 at *
  generalize upB l 7 = B2 at *
  generalize lackB isr l = B3 at *
  have HI0 : Hid (I64 ld) := i1
  clear hc i0 i1 i2 i3 i4 Q1 Q2 Q3 Q4
  go_enter Tryz.func187, Tryz.ntmps187
  go_wp2_with fail
  generalize (w.alloc (.cells #[.int .i64 id, .int .i64 ld, .int .i64 ep, .int .i64 vr, .slice a1 isr.length c1, .slice a2 reps.length c2, .slice a3 add.length c3, .slice a4 rem.length c4, .int .i64 mn] 54)).alloc (.cells #[.int .i64 0, .int .i64 0, .int .i64 0, .int .i64 0, .slice none 0 0, .slice none 0 0, .slice none 0 0, .slice none 0 0, .int .i64 0] 54) = W0 at *
  refine (G12.out _ HT0.out.b).mono ?_
  rintro e W1 ⟨rfl, hb⟩
  have HT1 := hid (HT0.out.next hb)
  clear hb
  have k0 := cell_blk HT1.out.x 0 _ rfl
  have k1 := cell_blk HT1.out.x 1 _ rfl
  have k2 := cell_blk HT1.out.x 2 _ rfl
  have k3 := cell_blk HT1.out.x 3 _ rfl
  have k4 := cell_blk HT1.out.x 4 _ rfl
  have k5 := cell_blk HT1.out.x 5 _ rfl
  have k6 := cell_blk HT1.out.x 6 _ rfl
  have k7 := cell_blk HT1.out.x 7 _ rfl
  have k8 := cell_blk HT1.out.x 8 _ rfl
  have z0 := cell_blk HT1.out.z 0 _ rfl
  have z1 := cell_blk HT1.out.z 1 _ rfl
  have z2 := cell_blk HT1.out.z 2 _ rfl
  have z3 := cell_blk HT1.out.z 3 _ rfl
  have z4 := cell_blk HT1.out.z 4 _ rfl
  have z5 := cell_blk HT1.out.z 5 _ rfl
  have z6 := cell_blk HT1.out.z 6 _ rfl
  have z7 := cell_blk HT1.out.z 7 _ rfl
  have z8 := cell_blk HT1.out.z 8 _ rfl
  have fx := frz_blk HT1.out.x
  have fz := frz_blk HT1.out.z
  cases B1
  · have HR : Hid (r = (Pt.zero, 1)) := by show _ = _; rw [HE.out]; simp
    go_wp2_with fail
    obtain ⟨hoff, hsz9⟩ := nine_off W1 (w.heap.size + 1) (.int .i64 0) (.int .i64 0) (.int .i64 0) (.int .i64 0) (.slice none 0 0) (.slice none 0 0) (.slice none 0 0) (.slice none 0 0) (.int .i64 0)
    have HT9 := hid (nine_z HT1.out rfl (.int .i64 0) (.int .i64 0) (.int .i64 0) (.int .i64 0) (.slice none 0 0) (.slice none 0 0) (.slice none 0 0) (.slice none 0 0) (.int .i64 0))
    have HOFF := hid hoff
    clear hoff k0 k1 k2 k3 k4 k5 k6 k7 k8 z0 z1 z2 z3 z4 z5 z6 z7 z8 fx fz
    generalize (((((((((W1.setCell ⟨w.heap.size + 1, 0, none⟩ (.int .i64 0)).setCell ⟨w.heap.size + 1, 1, none⟩ (.int .i64 0)).setCell ⟨w.heap.size + 1, 2, none⟩ (.int .i64 0)).setCell ⟨w.heap.size + 1, 3, none⟩ (.int .i64 0)).setCell ⟨w.heap.size + 1, 4, none⟩ (.slice none 0 0)).setCell ⟨w.heap.size + 1, 5, none⟩ (.slice none 0 0)).setCell ⟨w.heap.size + 1, 6, none⟩ (.slice none 0 0)).setCell ⟨w.heap.size + 1, 7, none⟩ (.slice none 0 0)).setCell ⟨w.heap.size + 1, 8, none⟩ (.int .i64 0)) = W9 at *
    have r0 := cell_blk HT9.out.z 0 _ rfl
    have r1 := cell_blk HT9.out.z 1 _ rfl
    have r2 := cell_blk HT9.out.z 2 _ rfl
    have r3 := cell_blk HT9.out.z 3 _ rfl
    have r4 := cell_blk HT9.out.z 4 _ rfl
    have r5 := cell_blk HT9.out.z 5 _ rfl
    have r6 := cell_blk HT9.out.z 6 _ rfl
    have r7 := cell_blk HT9.out.z 7 _ rfl
    have r8 := cell_blk HT9.out.z 8 _ rfl
    exact bodyPost_ret (v := .tuple #[.agg #[.int .i64 0, .int .i64 0, .int .i64 0, .int .i64 0, .slice none 0 0, .slice none 0 0, .slice none 0 0, .slice none 0 0, .int .i64 0], .int .i64 1]) (by simp [results, Tryz.results187, go_sem, r0, r1, r2, r3, r4, r5, r6, r7, r8]) rfl (by rw [HR.out]; exact res_err _ HT9.out.b)
  obtain ⟨hep, hvr⟩ := HBD.out rfl
  by_cases h0 : l = 0
  · subst h0
    by_cases h1 : ld = 0
    · subst h1
      have HR : Hid (r = (⟨id, 0, ep, vr, isr, reps, add, rem, mn⟩, 0)) := by show _ = _; rw [HE.out]; simp
      clear HE HC
      go_wp2_with fail
      refine (G15.out _ HT1.out.b).mono ?_
      rintro e W2 ⟨v', rfl, h1, h2, hb⟩
      have h2' := h2.mono (Y := fun b => w.heap.size + 2 ≤ b) fun b hx => Nat.le_trans HT1.out.s hx
      obtain ⟨x1, y1, x2, y2, x3, y3, x4, y4, rfl, q1, q2, q3, q4, ii⟩ := h1.open
      obtain ⟨n1, n2, n3, n4⟩ := h2' _ _ _ _ _ _ _ _ _ rfl
      simp only at q1 q2 q3 q4 n1 n2 n3 n4 ii
      have HT2 := hid (HT1.out.next hb)
      have HL : Hid (IA w W2 (.slice x1 isr.length y1) isr ∧ IA w W2 (.slice x2 reps.length y2) reps ∧ IA w W2 (.slice x3 add.length y3) add ∧ IA w W2 (.slice x4 rem.length y4) rem) := ⟨⟨q1, n1.mono fun b hx => .inr hx⟩, ⟨q2, n2.mono fun b hx => .inr hx⟩, ⟨q3, n3.mono fun b hx => .inr hx⟩, ⟨q4, n4.mono fun b hx => .inr hx⟩⟩
      have HN : Hid (InP (fun b => w.heap.size ≤ b) (.agg #[.int .i64 id, .int .i64 0, .int .i64 ep, .int .i64 vr, .slice x1 isr.length y1, .slice x2 reps.length y2, .slice x3 add.length y3, .slice x4 rem.length y4, .int .i64 mn]) ⟨id, 0, ep, vr, isr, reps, add, rem, mn⟩) := h2'.mono fun b hx => by omega
      have HI := hid ii
      clear q1 q2 q3 q4 n1 n2 n3 n4 ii h1 h2 h2' hb k0 k1 k2 k3 k4 k5 k6 k7 k8 z0 z1 z2 z3 z4 z5 z6 z7 z8 fx fz
      have k0 := cell_blk HT2.out.x 0 _ rfl
      have k1 := cell_blk HT2.out.x 1 _ rfl
      have k2 := cell_blk HT2.out.x 2 _ rfl
      have k3 := cell_blk HT2.out.x 3 _ rfl
      have k4 := cell_blk HT2.out.x 4 _ rfl
      have k5 := cell_blk HT2.out.x 5 _ rfl
      have k6 := cell_blk HT2.out.x 6 _ rfl
      have k7 := cell_blk HT2.out.x 7 _ rfl
      have k8 := cell_blk HT2.out.x 8 _ rfl
      have z0 := cell_blk HT2.out.z 0 _ rfl
      have z1 := cell_blk HT2.out.z 1 _ rfl
      have z2 := cell_blk HT2.out.z 2 _ rfl
      have z3 := cell_blk HT2.out.z 3 _ rfl
      have z4 := cell_blk HT2.out.z 4 _ rfl
      have z5 := cell_blk HT2.out.z 5 _ rfl
      have z6 := cell_blk HT2.out.z 6 _ rfl
      have z7 := cell_blk HT2.out.z 7 _ rfl
      have z8 := cell_blk HT2.out.z 8 _ rfl
      have fx := frz_blk HT2.out.x
      have fz := frz_blk HT2.out.z
      go_wp2_with fail
      obtain ⟨hoff, hsz9⟩ := nine_off W2 (w.heap.size + 1) (.int .i64 id) (.int .i64 0) (.int .i64 ep) (.int .i64 vr) (.slice x1 isr.length y1) (.slice x2 reps.length y2) (.slice x3 add.length y3) (.slice x4 rem.length y4) (.int .i64 mn)
      have HT9 := hid (nine_z HT2.out rfl (.int .i64 id) (.int .i64 0) (.int .i64 ep) (.int .i64 vr) (.slice x1 isr.length y1) (.slice x2 reps.length y2) (.slice x3 add.length y3) (.slice x4 rem.length y4) (.int .i64 mn))
      have HOFF := hid hoff
      clear hoff k0 k1 k2 k3 k4 k5 k6 k7 k8 z0 z1 z2 z3 z4 z5 z6 z7 z8 fx fz
      generalize (((((((((W2.setCell ⟨w.heap.size + 1, 0, none⟩ (.int .i64 id)).setCell ⟨w.heap.size + 1, 1, none⟩ (.int .i64 0)).setCell ⟨w.heap.size + 1, 2, none⟩ (.int .i64 ep)).setCell ⟨w.heap.size + 1, 3, none⟩ (.int .i64 vr)).setCell ⟨w.heap.size + 1, 4, none⟩ (.slice x1 isr.length y1)).setCell ⟨w.heap.size + 1, 5, none⟩ (.slice x2 reps.length y2)).setCell ⟨w.heap.size + 1, 6, none⟩ (.slice x3 add.length y3)).setCell ⟨w.heap.size + 1, 7, none⟩ (.slice x4 rem.length y4)).setCell ⟨w.heap.size + 1, 8, none⟩ (.int .i64 mn)) = W9 at *
      have r0 := cell_blk HT9.out.z 0 _ rfl
      have r1 := cell_blk HT9.out.z 1 _ rfl
      have r2 := cell_blk HT9.out.z 2 _ rfl
      have r3 := cell_blk HT9.out.z 3 _ rfl
      have r4 := cell_blk HT9.out.z 4 _ rfl
      have r5 := cell_blk HT9.out.z 5 _ rfl
      have r6 := cell_blk HT9.out.z 6 _ rfl
      have r7 := cell_blk HT9.out.z 7 _ rfl
      have r8 := cell_blk HT9.out.z 8 _ rfl
      exact bodyPost_ret (v := .tuple #[.agg #[.int .i64 id, .int .i64 0, .int .i64 ep, .int .i64 vr, .slice x1 isr.length y1, .slice x2 reps.length y2, .slice x3 add.length y3, .slice x4 rem.length y4, .int .i64 mn], .int .i64 0]) (by simp [results, Tryz.results187, go_sem, r0, r1, r2, r3, r4, r5, r6, r7, r8]) rfl (by rw [HR.out]; exact ⟨_, rfl, ⟨_, _, _, _, rfl, HL.out.1.offz HOFF.out hsz9, HL.out.2.1.offz HOFF.out hsz9, HL.out.2.2.1.offz HOFF.out hsz9, HL.out.2.2.2.offz HOFF.out hsz9, HI.out⟩, HN.out, HT9.out.b⟩)
    · have h1' : ¬ (0 : Int) = ld := fun e => h1 e.symm
      have HR : Hid (r = (⟨rid, rld, rep, rvr, rl1, rl2, rl3, rl4, rmn⟩, re)) := by show _ = _; rw [HE.out]; simp [h1']
      have HC0 := hid HC.out
      clear HE HC
      go_wp2_with fail
      refine (G15.out _ HT1.out.b).mono ?_
      rintro e W2 ⟨v', rfl, h1, h2, hb⟩
      have h2' := h2.mono (Y := fun b => w.heap.size + 2 ≤ b) fun b hx => Nat.le_trans HT1.out.s hx
      obtain ⟨x1, y1, x2, y2, x3, y3, x4, y4, rfl, q1, q2, q3, q4, ii⟩ := h1.open
      obtain ⟨n1, n2, n3, n4⟩ := h2' _ _ _ _ _ _ _ _ _ rfl
      simp only at q1 q2 q3 q4 n1 n2 n3 n4 ii
      have HT2 := hid (HT1.out.next hb)
      have G53 := hid (changed_any h1 h2' 0 hl hep hvr)
      rw [HC0.out] at G53
      clear q1 q2 q3 q4 n1 n2 n3 n4 ii h1 h2 h2' hb k0 k1 k2 k3 k4 k5 k6 k7 k8 z0 z1 z2 z3 z4 z5 z6 z7 z8 fx fz
      have k0 := cell_blk HT2.out.x 0 _ rfl
      have k1 := cell_blk HT2.out.x 1 _ rfl
      have k2 := cell_blk HT2.out.x 2 _ rfl
      have k3 := cell_blk HT2.out.x 3 _ rfl
      have k4 := cell_blk HT2.out.x 4 _ rfl
      have k5 := cell_blk HT2.out.x 5 _ rfl
      have k6 := cell_blk HT2.out.x 6 _ rfl
      have k7 := cell_blk HT2.out.x 7 _ rfl
      have k8 := cell_blk HT2.out.x 8 _ rfl
      have z0 := cell_blk HT2.out.z 0 _ rfl
      have z1 := cell_blk HT2.out.z 1 _ rfl
      have z2 := cell_blk HT2.out.z 2 _ rfl
      have z3 := cell_blk HT2.out.z 3 _ rfl
      have z4 := cell_blk HT2.out.z 4 _ rfl
      have z5 := cell_blk HT2.out.z 5 _ rfl
      have z6 := cell_blk HT2.out.z 6 _ rfl
      have z7 := cell_blk HT2.out.z 7 _ rfl
      have z8 := cell_blk HT2.out.z 8 _ rfl
      have fx := frz_blk HT2.out.x
      have fz := frz_blk HT2.out.z
      go_wp2_with fail
      refine G53.out.mono ?_
      rintro e W3 ⟨v', rfl, h1, h2, hb⟩
      obtain ⟨t1, u1, t2, u2, t3, u3, t4, u4, rfl, q1, q2, q3, q4, ii⟩ := h1.open
      obtain ⟨n1, n2, n3, n4⟩ := h2 _ _ _ _ _ _ _ _ _ rfl
      simp only at q1 q2 q3 q4 n1 n2 n3 n4 ii
      have HT3 := hid (HT2.out.next hb)
      have HL : Hid (IA w W3 (.slice t1 rl1.length u1) rl1 ∧ IA w W3 (.slice t2 rl2.length u2) rl2 ∧ IA w W3 (.slice t3 rl3.length u3) rl3 ∧ IA w W3 (.slice t4 rl4.length u4) rl4) := ⟨⟨q1, n1.mono fun b hx => .inr hx⟩, ⟨q2, n2.mono fun b hx => .inr hx⟩, ⟨q3, n3.mono fun b hx => .inr hx⟩, ⟨q4, n4.mono fun b hx => .inr hx⟩⟩
      have HN : Hid (InP (fun b => w.heap.size ≤ b) (.agg #[.int .i64 rid, .int .i64 rld, .int .i64 rep, .int .i64 rvr, .slice t1 rl1.length u1, .slice t2 rl2.length u2, .slice t3 rl3.length u3, .slice t4 rl4.length u4, .int .i64 rmn]) ⟨rid, rld, rep, rvr, rl1, rl2, rl3, rl4, rmn⟩) := h2.mono fun b hx => by omega
      have HI := hid ii
      clear q1 q2 q3 q4 n1 n2 n3 n4 ii h1 h2 hb k0 k1 k2 k3 k4 k5 k6 k7 k8 z0 z1 z2 z3 z4 z5 z6 z7 z8 fx fz
      have k0 := cell_blk HT3.out.x 0 _ rfl
      have k1 := cell_blk HT3.out.x 1 _ rfl
      have k2 := cell_blk HT3.out.x 2 _ rfl
      have k3 := cell_blk HT3.out.x 3 _ rfl
      have k4 := cell_blk HT3.out.x 4 _ rfl
      have k5 := cell_blk HT3.out.x 5 _ rfl
      have k6 := cell_blk HT3.out.x 6 _ rfl
      have k7 := cell_blk HT3.out.x 7 _ rfl
      have k8 := cell_blk HT3.out.x 8 _ rfl
      have z0 := cell_blk HT3.out.z 0 _ rfl
      have z1 := cell_blk HT3.out.z 1 _ rfl
      have z2 := cell_blk HT3.out.z 2 _ rfl
      have z3 := cell_blk HT3.out.z 3 _ rfl
      have z4 := cell_blk HT3.out.z 4 _ rfl
      have z5 := cell_blk HT3.out.z 5 _ rfl
      have z6 := cell_blk HT3.out.z 6 _ rfl
      have z7 := cell_blk HT3.out.z 7 _ rfl
      have z8 := cell_blk HT3.out.z 8 _ rfl
      have fx := frz_blk HT3.out.x
      have fz := frz_blk HT3.out.z
      go_wp2_with fail
      obtain ⟨hoff, hsz9⟩ := nine_off W3 (w.heap.size + 1) (.int .i64 rid) (.int .i64 rld) (.int .i64 rep) (.int .i64 rvr) (.slice t1 rl1.length u1) (.slice t2 rl2.length u2) (.slice t3 rl3.length u3) (.slice t4 rl4.length u4) (.int .i64 rmn)
      have HT9 := hid (nine_z HT3.out rfl (.int .i64 rid) (.int .i64 rld) (.int .i64 rep) (.int .i64 rvr) (.slice t1 rl1.length u1) (.slice t2 rl2.length u2) (.slice t3 rl3.length u3) (.slice t4 rl4.length u4) (.int .i64 rmn))
      have HOFF := hid hoff
      clear hoff k0 k1 k2 k3 k4 k5 k6 k7 k8 z0 z1 z2 z3 z4 z5 z6 z7 z8 fx fz
      generalize (((((((((W3.setCell ⟨w.heap.size + 1, 0, none⟩ (.int .i64 rid)).setCell ⟨w.heap.size + 1, 1, none⟩ (.int .i64 rld)).setCell ⟨w.heap.size + 1, 2, none⟩ (.int .i64 rep)).setCell ⟨w.heap.size + 1, 3, none⟩ (.int .i64 rvr)).setCell ⟨w.heap.size + 1, 4, none⟩ (.slice t1 rl1.length u1)).setCell ⟨w.heap.size + 1, 5, none⟩ (.slice t2 rl2.length u2)).setCell ⟨w.heap.size + 1, 6, none⟩ (.slice t3 rl3.length u3)).setCell ⟨w.heap.size + 1, 7, none⟩ (.slice t4 rl4.length u4)).setCell ⟨w.heap.size + 1, 8, none⟩ (.int .i64 rmn)) = W9 at *
      have r0 := cell_blk HT9.out.z 0 _ rfl
      have r1 := cell_blk HT9.out.z 1 _ rfl
      have r2 := cell_blk HT9.out.z 2 _ rfl
      have r3 := cell_blk HT9.out.z 3 _ rfl
      have r4 := cell_blk HT9.out.z 4 _ rfl
      have r5 := cell_blk HT9.out.z 5 _ rfl
      have r6 := cell_blk HT9.out.z 6 _ rfl
      have r7 := cell_blk HT9.out.z 7 _ rfl
      have r8 := cell_blk HT9.out.z 8 _ rfl
      exact bodyPost_ret (v := .tuple #[.agg #[.int .i64 rid, .int .i64 rld, .int .i64 rep, .int .i64 rvr, .slice t1 rl1.length u1, .slice t2 rl2.length u2, .slice t3 rl3.length u3, .slice t4 rl4.length u4, .int .i64 rmn], .int .i64 re]) (by simp [results, Tryz.results187, go_sem, r0, r1, r2, r3, r4, r5, r6, r7, r8]) rfl (by rw [HR.out]; exact ⟨_, rfl, ⟨_, _, _, _, rfl, HL.out.1.offz HOFF.out hsz9, HL.out.2.1.offz HOFF.out hsz9, HL.out.2.2.1.offz HOFF.out hsz9, HL.out.2.2.2.offz HOFF.out hsz9, HI.out⟩, HN.out, HT9.out.b⟩)
  · have HNZ : Hid (decide (l = 0) = false) := decide_eq_false h0
    rw [HNZ.out] at HE
    go_wp2_with fail
    refine (G58.out _).mono ?_
    rintro e W2 ⟨rfl, rfl⟩
    cases B2
    · have HR : Hid (r = (Pt.zero, 1)) := by show _ = _; rw [HE.out]; simp
      go_wp2_with fail
      obtain ⟨hoff, hsz9⟩ := nine_off W1 (w.heap.size + 1) (.int .i64 0) (.int .i64 0) (.int .i64 0) (.int .i64 0) (.slice none 0 0) (.slice none 0 0) (.slice none 0 0) (.slice none 0 0) (.int .i64 0)
      have HT9 := hid (nine_z HT1.out rfl (.int .i64 0) (.int .i64 0) (.int .i64 0) (.int .i64 0) (.slice none 0 0) (.slice none 0 0) (.slice none 0 0) (.slice none 0 0) (.int .i64 0))
      have HOFF := hid hoff
      clear hoff k0 k1 k2 k3 k4 k5 k6 k7 k8 z0 z1 z2 z3 z4 z5 z6 z7 z8 fx fz
      generalize (((((((((W1.setCell ⟨w.heap.size + 1, 0, none⟩ (.int .i64 0)).setCell ⟨w.heap.size + 1, 1, none⟩ (.int .i64 0)).setCell ⟨w.heap.size + 1, 2, none⟩ (.int .i64 0)).setCell ⟨w.heap.size + 1, 3, none⟩ (.int .i64 0)).setCell ⟨w.heap.size + 1, 4, none⟩ (.slice none 0 0)).setCell ⟨w.heap.size + 1, 5, none⟩ (.slice none 0 0)).setCell ⟨w.heap.size + 1, 6, none⟩ (.slice none 0 0)).setCell ⟨w.heap.size + 1, 7, none⟩ (.slice none 0 0)).setCell ⟨w.heap.size + 1, 8, none⟩ (.int .i64 0)) = W9 at *
      have r0 := cell_blk HT9.out.z 0 _ rfl
      have r1 := cell_blk HT9.out.z 1 _ rfl
      have r2 := cell_blk HT9.out.z 2 _ rfl
      have r3 := cell_blk HT9.out.z 3 _ rfl
      have r4 := cell_blk HT9.out.z 4 _ rfl
      have r5 := cell_blk HT9.out.z 5 _ rfl
      have r6 := cell_blk HT9.out.z 6 _ rfl
      have r7 := cell_blk HT9.out.z 7 _ rfl
      have r8 := cell_blk HT9.out.z 8 _ rfl
      exact bodyPost_ret (v := .tuple #[.agg #[.int .i64 0, .int .i64 0, .int .i64 0, .int .i64 0, .slice none 0 0, .slice none 0 0, .slice none 0 0, .slice none 0 0, .int .i64 0], .int .i64 1]) (by simp [results, Tryz.results187, go_sem, r0, r1, r2, r3, r4, r5, r6, r7, r8]) rfl (by rw [HR.out]; exact res_err _ HT9.out.b)
    go_wp2_with fail
    refine (G50.out _ HT1.out.b).mono ?_
    rintro e W2 ⟨rfl, rfl⟩
    cases B3
    · by_cases h1 : l = ld
      · subst h1
        have HR : Hid (r = (⟨id, l, ep, vr, isr, reps, add, rem, mn⟩, 0)) := by show _ = _; rw [HE.out]; simp
        clear HE HC
        go_wp2_with fail
        refine (G15.out _ HT1.out.b).mono ?_
        rintro e W2 ⟨v', rfl, h1, h2, hb⟩
        have h2' := h2.mono (Y := fun b => w.heap.size + 2 ≤ b) fun b hx => Nat.le_trans HT1.out.s hx
        obtain ⟨x1, y1, x2, y2, x3, y3, x4, y4, rfl, q1, q2, q3, q4, ii⟩ := h1.open
        obtain ⟨n1, n2, n3, n4⟩ := h2' _ _ _ _ _ _ _ _ _ rfl
        simp only at q1 q2 q3 q4 n1 n2 n3 n4 ii
        have HT2 := hid (HT1.out.next hb)
        have HL : Hid (IA w W2 (.slice x1 isr.length y1) isr ∧ IA w W2 (.slice x2 reps.length y2) reps ∧ IA w W2 (.slice x3 add.length y3) add ∧ IA w W2 (.slice x4 rem.length y4) rem) := ⟨⟨q1, n1.mono fun b hx => .inr hx⟩, ⟨q2, n2.mono fun b hx => .inr hx⟩, ⟨q3, n3.mono fun b hx => .inr hx⟩, ⟨q4, n4.mono fun b hx => .inr hx⟩⟩
        have HN : Hid (InP (fun b => w.heap.size ≤ b) (.agg #[.int .i64 id, .int .i64 l, .int .i64 ep, .int .i64 vr, .slice x1 isr.length y1, .slice x2 reps.length y2, .slice x3 add.length y3, .slice x4 rem.length y4, .int .i64 mn]) ⟨id, l, ep, vr, isr, reps, add, rem, mn⟩) := h2'.mono fun b hx => by omega
        have HI := hid ii
        clear q1 q2 q3 q4 n1 n2 n3 n4 ii h1 h2 h2' hb k0 k1 k2 k3 k4 k5 k6 k7 k8 z0 z1 z2 z3 z4 z5 z6 z7 z8 fx fz
        have k0 := cell_blk HT2.out.x 0 _ rfl
        have k1 := cell_blk HT2.out.x 1 _ rfl
        have k2 := cell_blk HT2.out.x 2 _ rfl
        have k3 := cell_blk HT2.out.x 3 _ rfl
        have k4 := cell_blk HT2.out.x 4 _ rfl
        have k5 := cell_blk HT2.out.x 5 _ rfl
        have k6 := cell_blk HT2.out.x 6 _ rfl
        have k7 := cell_blk HT2.out.x 7 _ rfl
        have k8 := cell_blk HT2.out.x 8 _ rfl
        have z0 := cell_blk HT2.out.z 0 _ rfl
        have z1 := cell_blk HT2.out.z 1 _ rfl
        have z2 := cell_blk HT2.out.z 2 _ rfl
        have z3 := cell_blk HT2.out.z 3 _ rfl
        have z4 := cell_blk HT2.out.z 4 _ rfl
        have z5 := cell_blk HT2.out.z 5 _ rfl
        have z6 := cell_blk HT2.out.z 6 _ rfl
        have z7 := cell_blk HT2.out.z 7 _ rfl
        have z8 := cell_blk HT2.out.z 8 _ rfl
        have fx := frz_blk HT2.out.x
        have fz := frz_blk HT2.out.z
        go_wp2_with fail
        obtain ⟨hoff, hsz9⟩ := nine_off W2 (w.heap.size + 1) (.int .i64 id) (.int .i64 l) (.int .i64 ep) (.int .i64 vr) (.slice x1 isr.length y1) (.slice x2 reps.length y2) (.slice x3 add.length y3) (.slice x4 rem.length y4) (.int .i64 mn)
        have HT9 := hid (nine_z HT2.out rfl (.int .i64 id) (.int .i64 l) (.int .i64 ep) (.int .i64 vr) (.slice x1 isr.length y1) (.slice x2 reps.length y2) (.slice x3 add.length y3) (.slice x4 rem.length y4) (.int .i64 mn))
        have HOFF := hid hoff
        clear hoff k0 k1 k2 k3 k4 k5 k6 k7 k8 z0 z1 z2 z3 z4 z5 z6 z7 z8 fx fz
        generalize (((((((((W2.setCell ⟨w.heap.size + 1, 0, none⟩ (.int .i64 id)).setCell ⟨w.heap.size + 1, 1, none⟩ (.int .i64 l)).setCell ⟨w.heap.size + 1, 2, none⟩ (.int .i64 ep)).setCell ⟨w.heap.size + 1, 3, none⟩ (.int .i64 vr)).setCell ⟨w.heap.size + 1, 4, none⟩ (.slice x1 isr.length y1)).setCell ⟨w.heap.size + 1, 5, none⟩ (.slice x2 reps.length y2)).setCell ⟨w.heap.size + 1, 6, none⟩ (.slice x3 add.length y3)).setCell ⟨w.heap.size + 1, 7, none⟩ (.slice x4 rem.length y4)).setCell ⟨w.heap.size + 1, 8, none⟩ (.int .i64 mn)) = W9 at *
        have r0 := cell_blk HT9.out.z 0 _ rfl
        have r1 := cell_blk HT9.out.z 1 _ rfl
        have r2 := cell_blk HT9.out.z 2 _ rfl
        have r3 := cell_blk HT9.out.z 3 _ rfl
        have r4 := cell_blk HT9.out.z 4 _ rfl
        have r5 := cell_blk HT9.out.z 5 _ rfl
        have r6 := cell_blk HT9.out.z 6 _ rfl
        have r7 := cell_blk HT9.out.z 7 _ rfl
        have r8 := cell_blk HT9.out.z 8 _ rfl
        exact bodyPost_ret (v := .tuple #[.agg #[.int .i64 id, .int .i64 l, .int .i64 ep, .int .i64 vr, .slice x1 isr.length y1, .slice x2 reps.length y2, .slice x3 add.length y3, .slice x4 rem.length y4, .int .i64 mn], .int .i64 0]) (by simp [results, Tryz.results187, go_sem, r0, r1, r2, r3, r4, r5, r6, r7, r8]) rfl (by rw [HR.out]; exact ⟨_, rfl, ⟨_, _, _, _, rfl, HL.out.1.offz HOFF.out hsz9, HL.out.2.1.offz HOFF.out hsz9, HL.out.2.2.1.offz HOFF.out hsz9, HL.out.2.2.2.offz HOFF.out hsz9, HI.out⟩, HN.out, HT9.out.b⟩)
      · have HR : Hid (r = (⟨rid, rld, rep, rvr, rl1, rl2, rl3, rl4, rmn⟩, re)) := by show _ = _; rw [HE.out]; simp [h1]
        have HC0 := hid HC.out
        clear HE HC
        go_wp2_with fail
        refine (G15.out _ HT1.out.b).mono ?_
        rintro e W2 ⟨v', rfl, h1, h2, hb⟩
        have h2' := h2.mono (Y := fun b => w.heap.size + 2 ≤ b) fun b hx => Nat.le_trans HT1.out.s hx
        obtain ⟨x1, y1, x2, y2, x3, y3, x4, y4, rfl, q1, q2, q3, q4, ii⟩ := h1.open
        obtain ⟨n1, n2, n3, n4⟩ := h2' _ _ _ _ _ _ _ _ _ rfl
        simp only at q1 q2 q3 q4 n1 n2 n3 n4 ii
        have HT2 := hid (HT1.out.next hb)
        have G53 := hid (changed_any h1 h2' l hl hep hvr)
        rw [HC0.out] at G53
        clear q1 q2 q3 q4 n1 n2 n3 n4 ii h1 h2 h2' hb k0 k1 k2 k3 k4 k5 k6 k7 k8 z0 z1 z2 z3 z4 z5 z6 z7 z8 fx fz
        have k0 := cell_blk HT2.out.x 0 _ rfl
        have k1 := cell_blk HT2.out.x 1 _ rfl
        have k2 := cell_blk HT2.out.x 2 _ rfl
        have k3 := cell_blk HT2.out.x 3 _ rfl
        have k4 := cell_blk HT2.out.x 4 _ rfl
        have k5 := cell_blk HT2.out.x 5 _ rfl
        have k6 := cell_blk HT2.out.x 6 _ rfl
        have k7 := cell_blk HT2.out.x 7 _ rfl
        have k8 := cell_blk HT2.out.x 8 _ rfl
        have z0 := cell_blk HT2.out.z 0 _ rfl
        have z1 := cell_blk HT2.out.z 1 _ rfl
        have z2 := cell_blk HT2.out.z 2 _ rfl
        have z3 := cell_blk HT2.out.z 3 _ rfl
        have z4 := cell_blk HT2.out.z 4 _ rfl
        have z5 := cell_blk HT2.out.z 5 _ rfl
        have z6 := cell_blk HT2.out.z 6 _ rfl
        have z7 := cell_blk HT2.out.z 7 _ rfl
        have z8 := cell_blk HT2.out.z 8 _ rfl
        have fx := frz_blk HT2.out.x
        have fz := frz_blk HT2.out.z
        go_wp2_with fail
        refine G53.out.mono ?_
        rintro e W3 ⟨v', rfl, h1, h2, hb⟩
        obtain ⟨t1, u1, t2, u2, t3, u3, t4, u4, rfl, q1, q2, q3, q4, ii⟩ := h1.open
        obtain ⟨n1, n2, n3, n4⟩ := h2 _ _ _ _ _ _ _ _ _ rfl
        simp only at q1 q2 q3 q4 n1 n2 n3 n4 ii
        have HT3 := hid (HT2.out.next hb)
        have HL : Hid (IA w W3 (.slice t1 rl1.length u1) rl1 ∧ IA w W3 (.slice t2 rl2.length u2) rl2 ∧ IA w W3 (.slice t3 rl3.length u3) rl3 ∧ IA w W3 (.slice t4 rl4.length u4) rl4) := ⟨⟨q1, n1.mono fun b hx => .inr hx⟩, ⟨q2, n2.mono fun b hx => .inr hx⟩, ⟨q3, n3.mono fun b hx => .inr hx⟩, ⟨q4, n4.mono fun b hx => .inr hx⟩⟩
        have HN : Hid (InP (fun b => w.heap.size ≤ b) (.agg #[.int .i64 rid, .int .i64 rld, .int .i64 rep, .int .i64 rvr, .slice t1 rl1.length u1, .slice t2 rl2.length u2, .slice t3 rl3.length u3, .slice t4 rl4.length u4, .int .i64 rmn]) ⟨rid, rld, rep, rvr, rl1, rl2, rl3, rl4, rmn⟩) := h2.mono fun b hx => by omega
        have HI := hid ii
        clear q1 q2 q3 q4 n1 n2 n3 n4 ii h1 h2 hb k0 k1 k2 k3 k4 k5 k6 k7 k8 z0 z1 z2 z3 z4 z5 z6 z7 z8 fx fz
        have k0 := cell_blk HT3.out.x 0 _ rfl
        have k1 := cell_blk HT3.out.x 1 _ rfl
        have k2 := cell_blk HT3.out.x 2 _ rfl
        have k3 := cell_blk HT3.out.x 3 _ rfl
        have k4 := cell_blk HT3.out.x 4 _ rfl
        have k5 := cell_blk HT3.out.x 5 _ rfl
        have k6 := cell_blk HT3.out.x 6 _ rfl
        have k7 := cell_blk HT3.out.x 7 _ rfl
        have k8 := cell_blk HT3.out.x 8 _ rfl
        have z0 := cell_blk HT3.out.z 0 _ rfl
        have z1 := cell_blk HT3.out.z 1 _ rfl
        have z2 := cell_blk HT3.out.z 2 _ rfl
        have z3 := cell_blk HT3.out.z 3 _ rfl
        have z4 := cell_blk HT3.out.z 4 _ rfl
        have z5 := cell_blk HT3.out.z 5 _ rfl
        have z6 := cell_blk HT3.out.z 6 _ rfl
        have z7 := cell_blk HT3.out.z 7 _ rfl
        have z8 := cell_blk HT3.out.z 8 _ rfl
        have fx := frz_blk HT3.out.x
        have fz := frz_blk HT3.out.z
        go_wp2_with fail
        obtain ⟨hoff, hsz9⟩ := nine_off W3 (w.heap.size + 1) (.int .i64 rid) (.int .i64 rld) (.int .i64 rep) (.int .i64 rvr) (.slice t1 rl1.length u1) (.slice t2 rl2.length u2) (.slice t3 rl3.length u3) (.slice t4 rl4.length u4) (.int .i64 rmn)
        have HT9 := hid (nine_z HT3.out rfl (.int .i64 rid) (.int .i64 rld) (.int .i64 rep) (.int .i64 rvr) (.slice t1 rl1.length u1) (.slice t2 rl2.length u2) (.slice t3 rl3.length u3) (.slice t4 rl4.length u4) (.int .i64 rmn))
        have HOFF := hid hoff
        clear hoff k0 k1 k2 k3 k4 k5 k6 k7 k8 z0 z1 z2 z3 z4 z5 z6 z7 z8 fx fz
        generalize (((((((((W3.setCell ⟨w.heap.size + 1, 0, none⟩ (.int .i64 rid)).setCell ⟨w.heap.size + 1, 1, none⟩ (.int .i64 rld)).setCell ⟨w.heap.size + 1, 2, none⟩ (.int .i64 rep)).setCell ⟨w.heap.size + 1, 3, none⟩ (.int .i64 rvr)).setCell ⟨w.heap.size + 1, 4, none⟩ (.slice t1 rl1.length u1)).setCell ⟨w.heap.size + 1, 5, none⟩ (.slice t2 rl2.length u2)).setCell ⟨w.heap.size + 1, 6, none⟩ (.slice t3 rl3.length u3)).setCell ⟨w.heap.size + 1, 7, none⟩ (.slice t4 rl4.length u4)).setCell ⟨w.heap.size + 1, 8, none⟩ (.int .i64 rmn)) = W9 at *
        have r0 := cell_blk HT9.out.z 0 _ rfl
        have r1 := cell_blk HT9.out.z 1 _ rfl
        have r2 := cell_blk HT9.out.z 2 _ rfl
        have r3 := cell_blk HT9.out.z 3 _ rfl
        have r4 := cell_blk HT9.out.z 4 _ rfl
        have r5 := cell_blk HT9.out.z 5 _ rfl
        have r6 := cell_blk HT9.out.z 6 _ rfl
        have r7 := cell_blk HT9.out.z 7 _ rfl
        have r8 := cell_blk HT9.out.z 8 _ rfl
        exact bodyPost_ret (v := .tuple #[.agg #[.int .i64 rid, .int .i64 rld, .int .i64 rep, .int .i64 rvr, .slice t1 rl1.length u1, .slice t2 rl2.length u2, .slice t3 rl3.length u3, .slice t4 rl4.length u4, .int .i64 rmn], .int .i64 re]) (by simp [results, Tryz.results187, go_sem, r0, r1, r2, r3, r4, r5, r6, r7, r8]) rfl (by rw [HR.out]; exact ⟨_, rfl, ⟨_, _, _, _, rfl, HL.out.1.offz HOFF.out hsz9, HL.out.2.1.offz HOFF.out hsz9, HL.out.2.2.1.offz HOFF.out hsz9, HL.out.2.2.2.offz HOFF.out hsz9, HI.out⟩, HN.out, HT9.out.b⟩)
    · have HR : Hid (r = (Pt.zero, 19)) := by show _ = _; rw [HE.out]; simp
      go_wp2_with fail
      obtain ⟨hoff, hsz9⟩ := nine_off W1 (w.heap.size + 1) (.int .i64 0) (.int .i64 0) (.int .i64 0) (.int .i64 0) (.slice none 0 0) (.slice none 0 0) (.slice none 0 0) (.slice none 0 0) (.int .i64 0)
      have HT9 := hid (nine_z HT1.out rfl (.int .i64 0) (.int .i64 0) (.int .i64 0) (.int .i64 0) (.slice none 0 0) (.slice none 0 0) (.slice none 0 0) (.slice none 0 0) (.int .i64 0))
      have HOFF := hid hoff
      clear hoff k0 k1 k2 k3 k4 k5 k6 k7 k8 z0 z1 z2 z3 z4 z5 z6 z7 z8 fx fz
      generalize (((((((((W1.setCell ⟨w.heap.size + 1, 0, none⟩ (.int .i64 0)).setCell ⟨w.heap.size + 1, 1, none⟩ (.int .i64 0)).setCell ⟨w.heap.size + 1, 2, none⟩ (.int .i64 0)).setCell ⟨w.heap.size + 1, 3, none⟩ (.int .i64 0)).setCell ⟨w.heap.size + 1, 4, none⟩ (.slice none 0 0)).setCell ⟨w.heap.size + 1, 5, none⟩ (.slice none 0 0)).setCell ⟨w.heap.size + 1, 6, none⟩ (.slice none 0 0)).setCell ⟨w.heap.size + 1, 7, none⟩ (.slice none 0 0)).setCell ⟨w.heap.size + 1, 8, none⟩ (.int .i64 0)) = W9 at *
      have r0 := cell_blk HT9.out.z 0 _ rfl
      have r1 := cell_blk HT9.out.z 1 _ rfl
      have r2 := cell_blk HT9.out.z 2 _ rfl
      have r3 := cell_blk HT9.out.z 3 _ rfl
      have r4 := cell_blk HT9.out.z 4 _ rfl
      have r5 := cell_blk HT9.out.z 5 _ rfl
      have r6 := cell_blk HT9.out.z 6 _ rfl
      have r7 := cell_blk HT9.out.z 7 _ rfl
      have r8 := cell_blk HT9.out.z 8 _ rfl
      exact bodyPost_ret (v := .tuple #[.agg #[.int .i64 0, .int .i64 0, .int .i64 0, .int .i64 0, .slice none 0 0, .slice none 0 0, .slice none 0 0, .slice none 0 0, .int .i64 0], .int .i64 19]) (by simp [results, Tryz.results187, go_sem, r0, r1, r2, r3, r4, r5, r6, r7, r8]) rfl (by rw [HR.out]; exact res_err _ HT9.out.b)
end Go.Proofs.YtcffomhcmilcpaaGreat

