/- What settles a move. -/
import Derived.Test.YtcffomhcmilcpaaGreatM7a
import Derived.Test.YtcffomhcmilcpaaGreatM6d
namespace Go.Proofs.YtcffomhcmilcpaaGreat
open Go.RowKit Go.Maps
set_option linter.unusedSimpArgs false
set_option linter.unusedVariables false
set_option maxRecDepth 100000

theorem il_z (w : World) : IL w (.slice none 0 0) [] := IL.nil w
set_option maxHeartbeats 6400000 in
theorem settled_any {w : World} {v g u : Value} {p : Pt} {gl up : List Int} (h : PartM w v p) (hg : IL w g gl) (hu : IL w u up) (he : 1 ≤ p.epoch ∧ p.epoch ≤ 1000000000) (hv : 1 ≤ p.ver ∧ p.ver ≤ 1000000000) :
    Calls Tryz.prog 205 #[v, g, u] w fun e w' => Res (fun b => w.heap.size ≤ b) w (settledP p gl up) e w' := by
  obtain ⟨id, ld, ep, vr, isr, reps, add, rem, mn⟩ := p
  obtain ⟨a1, c1, a2, c2, a3, c3, a4, c4, rfl, q1, q2, q3, q4, i0, i1, i2, i3, i4⟩ := h.open
  simp only at q1 q2 q3 q4 i0 i1 i2 i3 i4 ⊢
  have Q1 := hid q1
  have Q2 := hid q2
  have Q3 := hid q3
  have Q4 := hid q4
  clear h q1 q2 q3 q4
  simp only at he hv
  obtain ⟨ga, gc, rfl, _⟩ := hg.shape
  obtain ⟨ua, uc, rfl, _⟩ := hu.shape
  have QG := hid hg
  have QU := hid hu
  have HT0 := hid (two_new w #[.int .i64 id, .int .i64 ld, .int .i64 ep, .int .i64 vr, .slice a1 isr.length c1, .slice a2 reps.length c2, .slice a3 add.length c3, .slice a4 rem.length c4, .int .i64 mn] #[.int .i64 0, .int .i64 0, .int .i64 0, .int .i64 0, .slice none 0 0, .slice none 0 0, .slice none 0 0, .slice none 0 0, .int .i64 0])
  have G2 : Hid (∀ W, Below w.heap.size w W → Calls Tryz.prog 181 #[.slice a2 reps.length c2, .func (.func 158) #[] #[], .slice ga gl.length gc] W fun e w' => ∃ v', e = .returned v' ∧ IL w' v' (outL reps gl) ∧ In (fun b => W.heap.size ≤ b) v' (outL reps gl) ∧ Below W.heap.size W w') := fun W hb => those50_any (Q2.out.under hb) (QG.out.under hb)
  have G1 : Hid (∀ W, Below w.heap.size w W → Calls Tryz.prog 181 #[.slice a1 isr.length c1, .func (.func 158) #[] #[], .slice ga gl.length gc] W fun e w' => ∃ v', e = .returned v' ∧ IL w' v' (outL isr gl) ∧ In (fun b => W.heap.size ≤ b) v' (outL isr gl) ∧ Below W.heap.size W w') := fun W hb => those50_any (Q1.out.under hb) (QG.out.under hb)
  have G3 : Hid (∀ W, Below w.heap.size w W → Calls Tryz.prog 138 #[.slice ga gl.length gc, .int .i64 ld] W fun e w' => e = .returned (.bool (hasB gl ld)) ∧ W = w') := fun W hb => has_any (QG.out.under hb) ld i1
  have HS : Hid (settledP ⟨id, ld, ep, vr, isr, reps, add, rem, mn⟩ gl up = changedP ⟨id, ld, ep, vr, outL isr gl, outL reps gl, [], [], mn⟩ (if hasB gl ld then heirP ⟨id, ld, ep, vr, outL isr gl, outL reps gl, [], [], mn⟩ up else ld)) := rfl
  rw [HS.out]
  have HI : Hid (I64 id ∧ I64 ld ∧ I64 ep ∧ I64 vr ∧ I64 mn) := ⟨i0, i1, i2, i3, i4⟩
  generalize outL isr gl = S at *
  generalize outL reps gl = R at *
  have HP : Hid (∀ W x1 y1 x2 y2, IL W (.slice x1 S.length y1) S → IL W (.slice x2 R.length y2) R → PartM W (.agg #[.int .i64 id, .int .i64 ld, .int .i64 ep, .int .i64 vr, .slice x1 S.length y1, .slice x2 R.length y2, .slice none 0 0, .slice none 0 0, .int .i64 mn]) ⟨id, ld, ep, vr, S, R, [], [], mn⟩) := fun W x1 y1 x2 y2 h1 h2 => ⟨_, _, _, _, rfl, h1, h2, il_z W, il_z W, HI.out⟩
  have G4 : Hid (∀ W x1 y1 x2 y2, Below w.heap.size w W → IL W (.slice x1 S.length y1) S → IL W (.slice x2 R.length y2) R → Calls Tryz.prog 182 #[.agg #[.int .i64 id, .int .i64 ld, .int .i64 ep, .int .i64 vr, .slice x1 S.length y1, .slice x2 R.length y2, .slice none 0 0, .slice none 0 0, .int .i64 mn], .slice ua up.length uc] W fun e w' => e = .returned (.int .i64 (heirP ⟨id, ld, ep, vr, S, R, [], [], mn⟩ up)) ∧ I64 (heirP ⟨id, ld, ep, vr, S, R, [], [], mn⟩ up) ∧ Below W.heap.size W w') := fun W x1 y1 x2 y2 hb h1 h2 => heir_any (HP.out W x1 y1 x2 y2 h1 h2) (QU.out.under hb)
  have G5 : Hid (∀ W x1 y1 x2 y2 l, I64 l → IL W (.slice x1 S.length y1) S → IL W (.slice x2 R.length y2) R → In (fun b => w.heap.size + 2 ≤ b) (.slice x1 S.length y1) S → In (fun b => w.heap.size + 2 ≤ b) (.slice x2 R.length y2) R → Calls Tryz.prog 159 #[.agg #[.int .i64 id, .int .i64 ld, .int .i64 ep, .int .i64 vr, .slice x1 S.length y1, .slice x2 R.length y2, .slice none 0 0, .slice none 0 0, .int .i64 mn], .int .i64 l] W fun e w' => Res (fun b => w.heap.size + 2 ≤ b) W (changedP ⟨id, ld, ep, vr, S, R, [], [], mn⟩ l) e w') := fun W x1 y1 x2 y2 l hl h1 h2 h3 h4 => changed_any (HP.out W x1 y1 x2 y2 h1 h2) (inP_of h3 h4 (In.nil _ _) (In.nil _ _)) l hl he hv
  generalize hasB gl ld = B at *
  generalize heirP ⟨id, ld, ep, vr, S, R, [], [], mn⟩ up = H at *
  generalize hr : changedP ⟨id, ld, ep, vr, S, R, [], [], mn⟩ (if B then H else ld) = r
  have HR0 : Hid (B = false → changedP ⟨id, ld, ep, vr, S, R, [], [], mn⟩ ld = r) := fun e => by rw [← hr, e]; rfl
  have HR1' : Hid (B = true → changedP ⟨id, ld, ep, vr, S, R, [], [], mn⟩ H = r) := fun e => by rw [← hr, e]; rfl
  obtain ⟨⟨rid, rld, rep, rvr, rl1, rl2, rl3, rl4, rmn⟩, re⟩ := r
  clear hr HP HS i0 i2 i3 i4 Q1 Q2 Q3 Q4 he hv hg hu QG QU
  go_enter Tryz.func205, Tryz.ntmps205
  go_wp2_with fail
  generalize (w.alloc (.cells #[.int .i64 id, .int .i64 ld, .int .i64 ep, .int .i64 vr, .slice a1 isr.length c1, .slice a2 reps.length c2, .slice a3 add.length c3, .slice a4 rem.length c4, .int .i64 mn] 54)).alloc (.cells #[.int .i64 0, .int .i64 0, .int .i64 0, .int .i64 0, .slice none 0 0, .slice none 0 0, .slice none 0 0, .slice none 0 0, .int .i64 0] 54) = W0 at *
  refine (G2.out _ HT0.out.b).mono ?_
  rintro e W1 ⟨v', rfl, h1, h2, hb⟩
  obtain ⟨g2, d2, rfl, _⟩ := h1.shape
  have HT1 := hid (HT0.out.next hb)
  have HR1 := hid (ia_new (w := w) h1 h2 HT0.out.s)
  have HRn : Hid (In (fun b => w.heap.size + 2 ≤ b) (.slice g2 R.length d2) R) := h2.mono fun b hx => Nat.le_trans HT0.out.s hx
  clear h1 h2 hb
  have k0 := cell_blk HT1.out.x 0 _ rfl
  have k1 := cell_blk HT1.out.x 1 _ rfl
  have k2 := cell_blk HT1.out.x 2 _ rfl
  have k3 := cell_blk HT1.out.x 3 _ rfl
  have k4 := cell_blk HT1.out.x 4 _ rfl
  have k5 := cell_blk HT1.out.x 5 _ rfl
  have k6 := cell_blk HT1.out.x 6 _ rfl
  have k7 := cell_blk HT1.out.x 7 _ rfl
  have k8 := cell_blk HT1.out.x 8 _ rfl
  have fx := frz_blk HT1.out.x
  go_wp2_with fail
  have HT2 : Hid (TwoB w (W1.setCell ⟨w.heap.size, 5, none⟩ (.slice g2 R.length d2)) #[.int .i64 id, .int .i64 ld, .int .i64 ep, .int .i64 vr, .slice a1 isr.length c1, .slice g2 R.length d2, .slice a3 add.length c3, .slice a4 rem.length c4, .int .i64 mn] #[.int .i64 0, .int .i64 0, .int .i64 0, .int .i64 0, .slice none 0 0, .slice none 0 0, .slice none 0 0, .slice none 0 0, .int .i64 0]) := HT1.out.setx 5 _
  have HR2 := hid (HR1.out.set (.inl rfl) 5 (.slice g2 R.length d2))
  clear k0 k1 k2 k3 k4 k5 k6 k7 k8 fx HT1 HR1
  generalize W1.setCell ⟨w.heap.size, 5, none⟩ (.slice g2 R.length d2) = W2 at *
  refine (G1.out _ HT2.out.b).mono ?_
  rintro e W3 ⟨v', rfl, h1, h2, hb⟩
  obtain ⟨g1, d1, rfl, _⟩ := h1.shape
  have HT3 := hid (HT2.out.next hb)
  have HR3 := hid (HR2.out.under hb)
  have HS3 := hid (ia_new (w := w) h1 h2 HT2.out.s)
  have HSn : Hid (In (fun b => w.heap.size + 2 ≤ b) (.slice g1 S.length d1) S) := h2.mono fun b hx => Nat.le_trans HT2.out.s hx
  clear h1 h2 hb HT2 HR2
  have k0 := cell_blk HT3.out.x 0 _ rfl
  have k1 := cell_blk HT3.out.x 1 _ rfl
  have k2 := cell_blk HT3.out.x 2 _ rfl
  have k3 := cell_blk HT3.out.x 3 _ rfl
  have k4 := cell_blk HT3.out.x 4 _ rfl
  have k5 := cell_blk HT3.out.x 5 _ rfl
  have k6 := cell_blk HT3.out.x 6 _ rfl
  have k7 := cell_blk HT3.out.x 7 _ rfl
  have k8 := cell_blk HT3.out.x 8 _ rfl
  have fx := frz_blk HT3.out.x
  go_wp2_with fail
  have HT4 : Hid (TwoB w (((W3.setCell ⟨w.heap.size, 4, none⟩ (.slice g1 S.length d1)).setCell ⟨w.heap.size, 6, none⟩ (.slice none 0 0)).setCell ⟨w.heap.size, 7, none⟩ (.slice none 0 0)) #[.int .i64 id, .int .i64 ld, .int .i64 ep, .int .i64 vr, .slice g1 S.length d1, .slice g2 R.length d2, .slice none 0 0, .slice none 0 0, .int .i64 mn] #[.int .i64 0, .int .i64 0, .int .i64 0, .int .i64 0, .slice none 0 0, .slice none 0 0, .slice none 0 0, .slice none 0 0, .int .i64 0]) := ((HT3.out.setx 4 (.slice g1 S.length d1)).setx 6 (.slice none 0 0)).setx 7 (.slice none 0 0)
  have HR4 := hid (((HR3.out.set (.inl rfl) 4 (.slice g1 S.length d1)).set (.inl rfl) 6 (.slice none 0 0)).set (.inl rfl) 7 (.slice none 0 0))
  have HS4 := hid (((HS3.out.set (.inl rfl) 4 (.slice g1 S.length d1)).set (.inl rfl) 6 (.slice none 0 0)).set (.inl rfl) 7 (.slice none 0 0))
  clear k0 k1 k2 k3 k4 k5 k6 k7 k8 fx HT3 HR3 HS3
  generalize ((W3.setCell ⟨w.heap.size, 4, none⟩ (.slice g1 S.length d1)).setCell ⟨w.heap.size, 6, none⟩ (.slice none 0 0)).setCell ⟨w.heap.size, 7, none⟩ (.slice none 0 0) = W4 at *
  refine (G3.out _ HT4.out.b).mono ?_
  rintro e W5 ⟨rfl, rfl⟩
  have k0 := cell_blk HT4.out.x 0 _ rfl
  have k1 := cell_blk HT4.out.x 1 _ rfl
  have k2 := cell_blk HT4.out.x 2 _ rfl
  have k3 := cell_blk HT4.out.x 3 _ rfl
  have k4 := cell_blk HT4.out.x 4 _ rfl
  have k5 := cell_blk HT4.out.x 5 _ rfl
  have k6 := cell_blk HT4.out.x 6 _ rfl
  have k7 := cell_blk HT4.out.x 7 _ rfl
  have k8 := cell_blk HT4.out.x 8 _ rfl
  have z0 := cell_blk HT4.out.z 0 _ rfl
  have z1 := cell_blk HT4.out.z 1 _ rfl
  have z2 := cell_blk HT4.out.z 2 _ rfl
  have z3 := cell_blk HT4.out.z 3 _ rfl
  have z4 := cell_blk HT4.out.z 4 _ rfl
  have z5 := cell_blk HT4.out.z 5 _ rfl
  have z6 := cell_blk HT4.out.z 6 _ rfl
  have z7 := cell_blk HT4.out.z 7 _ rfl
  have z8 := cell_blk HT4.out.z 8 _ rfl
  have fx := frz_blk HT4.out.x
  have fz := frz_blk HT4.out.z
  cases B
  · have G6 := hid (G5.out W4 g1 d1 g2 d2 ld i1 HS4.out.1 HR4.out.1 HSn.out HRn.out)
    rw [HR0.out rfl] at G6
    go_wp2_with fail
    refine G6.out.mono ?_
    rintro e W5 ⟨v', rfl, h1, h2, hb⟩
    obtain ⟨x1, y1, x2, y2, x3, y3, x4, y4, rfl, q1, q2, q3, q4, ii⟩ := h1.open
    obtain ⟨n1, n2, n3, n4⟩ := h2 _ _ _ _ _ _ _ _ _ rfl
    simp only at q1 q2 q3 q4 n1 n2 n3 n4 ii
    have HT5 := hid (HT4.out.next hb)
    have HL : Hid (IA w W5 (.slice x1 rl1.length y1) rl1 ∧ IA w W5 (.slice x2 rl2.length y2) rl2 ∧ IA w W5 (.slice x3 rl3.length y3) rl3 ∧ IA w W5 (.slice x4 rl4.length y4) rl4) := ⟨⟨q1, n1.mono fun b hx => .inr hx⟩, ⟨q2, n2.mono fun b hx => .inr hx⟩, ⟨q3, n3.mono fun b hx => .inr hx⟩, ⟨q4, n4.mono fun b hx => .inr hx⟩⟩
    have HN : Hid (InP (fun b => w.heap.size ≤ b) (.agg #[.int .i64 rid, .int .i64 rld, .int .i64 rep, .int .i64 rvr, .slice x1 rl1.length y1, .slice x2 rl2.length y2, .slice x3 rl3.length y3, .slice x4 rl4.length y4, .int .i64 rmn]) ⟨rid, rld, rep, rvr, rl1, rl2, rl3, rl4, rmn⟩) := h2.mono fun b hx => by omega
    have HI := hid ii
    clear q1 q2 q3 q4 n1 n2 n3 n4 ii h1 h2 hb k0 k1 k2 k3 k4 k5 k6 k7 k8 z0 z1 z2 z3 z4 z5 z6 z7 z8 fx fz
    have k0 := cell_blk HT5.out.x 0 _ rfl
    have k1 := cell_blk HT5.out.x 1 _ rfl
    have k2 := cell_blk HT5.out.x 2 _ rfl
    have k3 := cell_blk HT5.out.x 3 _ rfl
    have k4 := cell_blk HT5.out.x 4 _ rfl
    have k5 := cell_blk HT5.out.x 5 _ rfl
    have k6 := cell_blk HT5.out.x 6 _ rfl
    have k7 := cell_blk HT5.out.x 7 _ rfl
    have k8 := cell_blk HT5.out.x 8 _ rfl
    have z0 := cell_blk HT5.out.z 0 _ rfl
    have z1 := cell_blk HT5.out.z 1 _ rfl
    have z2 := cell_blk HT5.out.z 2 _ rfl
    have z3 := cell_blk HT5.out.z 3 _ rfl
    have z4 := cell_blk HT5.out.z 4 _ rfl
    have z5 := cell_blk HT5.out.z 5 _ rfl
    have z6 := cell_blk HT5.out.z 6 _ rfl
    have z7 := cell_blk HT5.out.z 7 _ rfl
    have z8 := cell_blk HT5.out.z 8 _ rfl
    have fx := frz_blk HT5.out.x
    have fz := frz_blk HT5.out.z
    go_wp2_with fail
    obtain ⟨hoff, hsz9⟩ := nine_off W5 (w.heap.size + 1) (.int .i64 rid) (.int .i64 rld) (.int .i64 rep) (.int .i64 rvr) (.slice x1 rl1.length y1) (.slice x2 rl2.length y2) (.slice x3 rl3.length y3) (.slice x4 rl4.length y4) (.int .i64 rmn)
    have HT9 := hid (nine_z HT5.out rfl (.int .i64 rid) (.int .i64 rld) (.int .i64 rep) (.int .i64 rvr) (.slice x1 rl1.length y1) (.slice x2 rl2.length y2) (.slice x3 rl3.length y3) (.slice x4 rl4.length y4) (.int .i64 rmn))
    have HOFF := hid hoff
    clear hoff k0 k1 k2 k3 k4 k5 k6 k7 k8 z0 z1 z2 z3 z4 z5 z6 z7 z8 fx fz
    generalize (((((((((W5.setCell ⟨w.heap.size + 1, 0, none⟩ (.int .i64 rid)).setCell ⟨w.heap.size + 1, 1, none⟩ (.int .i64 rld)).setCell ⟨w.heap.size + 1, 2, none⟩ (.int .i64 rep)).setCell ⟨w.heap.size + 1, 3, none⟩ (.int .i64 rvr)).setCell ⟨w.heap.size + 1, 4, none⟩ (.slice x1 rl1.length y1)).setCell ⟨w.heap.size + 1, 5, none⟩ (.slice x2 rl2.length y2)).setCell ⟨w.heap.size + 1, 6, none⟩ (.slice x3 rl3.length y3)).setCell ⟨w.heap.size + 1, 7, none⟩ (.slice x4 rl4.length y4)).setCell ⟨w.heap.size + 1, 8, none⟩ (.int .i64 rmn)) = W9 at *
    have r0 := cell_blk HT9.out.z 0 _ rfl
    have r1 := cell_blk HT9.out.z 1 _ rfl
    have r2 := cell_blk HT9.out.z 2 _ rfl
    have r3 := cell_blk HT9.out.z 3 _ rfl
    have r4 := cell_blk HT9.out.z 4 _ rfl
    have r5 := cell_blk HT9.out.z 5 _ rfl
    have r6 := cell_blk HT9.out.z 6 _ rfl
    have r7 := cell_blk HT9.out.z 7 _ rfl
    have r8 := cell_blk HT9.out.z 8 _ rfl
    exact bodyPost_ret (v := .tuple #[.agg #[.int .i64 rid, .int .i64 rld, .int .i64 rep, .int .i64 rvr, .slice x1 rl1.length y1, .slice x2 rl2.length y2, .slice x3 rl3.length y3, .slice x4 rl4.length y4, .int .i64 rmn], .int .i64 re]) (by simp [results, Tryz.results205, go_sem, r0, r1, r2, r3, r4, r5, r6, r7, r8]) rfl ⟨_, rfl, ⟨_, _, _, _, rfl, HL.out.1.offz HOFF.out hsz9, HL.out.2.1.offz HOFF.out hsz9, HL.out.2.2.1.offz HOFF.out hsz9, HL.out.2.2.2.offz HOFF.out hsz9, HI.out⟩, HN.out, HT9.out.b⟩
  · have HR2 := hid (HR1'.out rfl)
    clear HR0 HR1'
    go_wp2_with fail
    refine (G4.out W4 g1 d1 g2 d2 HT4.out.b HS4.out.1 HR4.out.1).mono ?_
    rintro e W5 ⟨rfl, hH, hb⟩
    have HT5 := hid (HT4.out.next hb)
    have G6 := hid (G5.out W5 g1 d1 g2 d2 H hH (HS4.out.1.under hb) (HR4.out.1.under hb) HSn.out HRn.out)
    clear hb k0 k1 k2 k3 k4 k5 k6 k7 k8 z0 z1 z2 z3 z4 z5 z6 z7 z8 fx fz HT4
    have k0 := cell_blk HT5.out.x 0 _ rfl
    have k1 := cell_blk HT5.out.x 1 _ rfl
    have k2 := cell_blk HT5.out.x 2 _ rfl
    have k3 := cell_blk HT5.out.x 3 _ rfl
    have k4 := cell_blk HT5.out.x 4 _ rfl
    have k5 := cell_blk HT5.out.x 5 _ rfl
    have k6 := cell_blk HT5.out.x 6 _ rfl
    have k7 := cell_blk HT5.out.x 7 _ rfl
    have k8 := cell_blk HT5.out.x 8 _ rfl
    have z0 := cell_blk HT5.out.z 0 _ rfl
    have z1 := cell_blk HT5.out.z 1 _ rfl
    have z2 := cell_blk HT5.out.z 2 _ rfl
    have z3 := cell_blk HT5.out.z 3 _ rfl
    have z4 := cell_blk HT5.out.z 4 _ rfl
    have z5 := cell_blk HT5.out.z 5 _ rfl
    have z6 := cell_blk HT5.out.z 6 _ rfl
    have z7 := cell_blk HT5.out.z 7 _ rfl
    have z8 := cell_blk HT5.out.z 8 _ rfl
    have fx := frz_blk HT5.out.x
    have fz := frz_blk HT5.out.z
    rw [HR2.out] at G6
    go_wp2_with fail
    refine G6.out.mono ?_
    rintro e W6 ⟨v', rfl, h1, h2, hb⟩
    obtain ⟨x1, y1, x2, y2, x3, y3, x4, y4, rfl, q1, q2, q3, q4, ii⟩ := h1.open
    obtain ⟨n1, n2, n3, n4⟩ := h2 _ _ _ _ _ _ _ _ _ rfl
    simp only at q1 q2 q3 q4 n1 n2 n3 n4 ii
    have HT6 := hid (HT5.out.next hb)
    have HL : Hid (IA w W6 (.slice x1 rl1.length y1) rl1 ∧ IA w W6 (.slice x2 rl2.length y2) rl2 ∧ IA w W6 (.slice x3 rl3.length y3) rl3 ∧ IA w W6 (.slice x4 rl4.length y4) rl4) := ⟨⟨q1, n1.mono fun b hx => .inr hx⟩, ⟨q2, n2.mono fun b hx => .inr hx⟩, ⟨q3, n3.mono fun b hx => .inr hx⟩, ⟨q4, n4.mono fun b hx => .inr hx⟩⟩
    have HN : Hid (InP (fun b => w.heap.size ≤ b) (.agg #[.int .i64 rid, .int .i64 rld, .int .i64 rep, .int .i64 rvr, .slice x1 rl1.length y1, .slice x2 rl2.length y2, .slice x3 rl3.length y3, .slice x4 rl4.length y4, .int .i64 rmn]) ⟨rid, rld, rep, rvr, rl1, rl2, rl3, rl4, rmn⟩) := h2.mono fun b hx => by omega
    have HI := hid ii
    clear q1 q2 q3 q4 n1 n2 n3 n4 ii h1 h2 hb k0 k1 k2 k3 k4 k5 k6 k7 k8 z0 z1 z2 z3 z4 z5 z6 z7 z8 fx fz
    have k0 := cell_blk HT6.out.x 0 _ rfl
    have k1 := cell_blk HT6.out.x 1 _ rfl
    have k2 := cell_blk HT6.out.x 2 _ rfl
    have k3 := cell_blk HT6.out.x 3 _ rfl
    have k4 := cell_blk HT6.out.x 4 _ rfl
    have k5 := cell_blk HT6.out.x 5 _ rfl
    have k6 := cell_blk HT6.out.x 6 _ rfl
    have k7 := cell_blk HT6.out.x 7 _ rfl
    have k8 := cell_blk HT6.out.x 8 _ rfl
    have z0 := cell_blk HT6.out.z 0 _ rfl
    have z1 := cell_blk HT6.out.z 1 _ rfl
    have z2 := cell_blk HT6.out.z 2 _ rfl
    have z3 := cell_blk HT6.out.z 3 _ rfl
    have z4 := cell_blk HT6.out.z 4 _ rfl
    have z5 := cell_blk HT6.out.z 5 _ rfl
    have z6 := cell_blk HT6.out.z 6 _ rfl
    have z7 := cell_blk HT6.out.z 7 _ rfl
    have z8 := cell_blk HT6.out.z 8 _ rfl
    have fx := frz_blk HT6.out.x
    have fz := frz_blk HT6.out.z
    go_wp2_with fail
    obtain ⟨hoff, hsz9⟩ := nine_off W6 (w.heap.size + 1) (.int .i64 rid) (.int .i64 rld) (.int .i64 rep) (.int .i64 rvr) (.slice x1 rl1.length y1) (.slice x2 rl2.length y2) (.slice x3 rl3.length y3) (.slice x4 rl4.length y4) (.int .i64 rmn)
    have HT9 := hid (nine_z HT6.out rfl (.int .i64 rid) (.int .i64 rld) (.int .i64 rep) (.int .i64 rvr) (.slice x1 rl1.length y1) (.slice x2 rl2.length y2) (.slice x3 rl3.length y3) (.slice x4 rl4.length y4) (.int .i64 rmn))
    have HOFF := hid hoff
    clear hoff k0 k1 k2 k3 k4 k5 k6 k7 k8 z0 z1 z2 z3 z4 z5 z6 z7 z8 fx fz
    generalize (((((((((W6.setCell ⟨w.heap.size + 1, 0, none⟩ (.int .i64 rid)).setCell ⟨w.heap.size + 1, 1, none⟩ (.int .i64 rld)).setCell ⟨w.heap.size + 1, 2, none⟩ (.int .i64 rep)).setCell ⟨w.heap.size + 1, 3, none⟩ (.int .i64 rvr)).setCell ⟨w.heap.size + 1, 4, none⟩ (.slice x1 rl1.length y1)).setCell ⟨w.heap.size + 1, 5, none⟩ (.slice x2 rl2.length y2)).setCell ⟨w.heap.size + 1, 6, none⟩ (.slice x3 rl3.length y3)).setCell ⟨w.heap.size + 1, 7, none⟩ (.slice x4 rl4.length y4)).setCell ⟨w.heap.size + 1, 8, none⟩ (.int .i64 rmn)) = W9 at *
    have r0 := cell_blk HT9.out.z 0 _ rfl
    have r1 := cell_blk HT9.out.z 1 _ rfl
    have r2 := cell_blk HT9.out.z 2 _ rfl
    have r3 := cell_blk HT9.out.z 3 _ rfl
    have r4 := cell_blk HT9.out.z 4 _ rfl
    have r5 := cell_blk HT9.out.z 5 _ rfl
    have r6 := cell_blk HT9.out.z 6 _ rfl
    have r7 := cell_blk HT9.out.z 7 _ rfl
    have r8 := cell_blk HT9.out.z 8 _ rfl
    exact bodyPost_ret (v := .tuple #[.agg #[.int .i64 rid, .int .i64 rld, .int .i64 rep, .int .i64 rvr, .slice x1 rl1.length y1, .slice x2 rl2.length y2, .slice x3 rl3.length y3, .slice x4 rl4.length y4, .int .i64 rmn], .int .i64 re]) (by simp [results, Tryz.results205, go_sem, r0, r1, r2, r3, r4, r5, r6, r7, r8]) rfl ⟨_, rfl, ⟨_, _, _, _, rfl, HL.out.1.offz HOFF.out hsz9, HL.out.2.1.offz HOFF.out hsz9, HL.out.2.2.1.offz HOFF.out hsz9, HL.out.2.2.2.offz HOFF.out hsz9, HI.out⟩, HN.out, HT9.out.b⟩
end Go.Proofs.YtcffomhcmilcpaaGreat
