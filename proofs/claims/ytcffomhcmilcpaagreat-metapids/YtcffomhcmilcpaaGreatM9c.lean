/- Begin. -/
import Derived.Test.YtcffomhcmilcpaaGreatM8j
import Derived.Test.YtcffomhcmilcpaaGreatM6a
import Derived.Test.YtcffomhcmilcpaaGreatM6b
import Derived.Test.YtcffomhcmilcpaaGreatM9b
namespace Go.Proofs.YtcffomhcmilcpaaGreat
open Go.RowKit Go.Maps
set_option linter.unusedSimpArgs false
set_option linter.unusedVariables false
set_option maxRecDepth 100000

set_option maxHeartbeats 12800000 in
theorem begin_any {w : World} {v m u : Value} {p : Pt} {t up : List Int} (h : PartM w v p) (hm : IL w m t) (hu : IL w u up) :
    Calls Tryz.prog 184 #[v, m, u] w fun e w' => Res (fun b => w.heap.size ≤ b) w (beginP p t up) e w' := by
  obtain ⟨id, ld, ep, vr, isr, reps, add, rem, mn⟩ := p
  obtain ⟨a1, c1, a2, c2, a3, c3, a4, c4, rfl, q1, q2, q3, q4, i0, i1, i2, i3, i4⟩ := h.open
  simp only at q1 q2 q3 q4 i0 i1 i2 i3 i4 ⊢
  have Q1 := hid q1
  have Q2 := hid q2
  have Q3 := hid q3
  have Q4 := hid q4
  clear h q1 q2 q3 q4
  obtain ⟨ma, mc, rfl, _⟩ := hm.shape
  obtain ⟨ua, uc, rfl, _⟩ := hu.shape
  have QM := hid hm
  have QU := hid hu
  have HT0 := hid (two_new w #[.int .i64 id, .int .i64 ld, .int .i64 ep, .int .i64 vr, .slice a1 isr.length c1, .slice a2 reps.length c2, .slice a3 add.length c3, .slice a4 rem.length c4, .int .i64 mn] #[.int .i64 0, .int .i64 0, .int .i64 0, .int .i64 0, .slice none 0 0, .slice none 0 0, .slice none 0 0, .slice none 0 0, .int .i64 0])
  have HP : Hid (∀ W, Below w.heap.size w W → PartM W (.agg #[.int .i64 id, .int .i64 ld, .int .i64 ep, .int .i64 vr, .slice a1 isr.length c1, .slice a2 reps.length c2, .slice a3 add.length c3, .slice a4 rem.length c4, .int .i64 mn]) ⟨id, ld, ep, vr, isr, reps, add, rem, mn⟩) := fun W hb => ⟨_, _, _, _, rfl, Q1.out.under hb, Q2.out.under hb, Q3.out.under hb, Q4.out.under hb, i0, i1, i2, i3, i4⟩
  have G12 : Hid (∀ W, Below w.heap.size w W → Calls Tryz.prog 96 #[.agg #[.int .i64 id, .int .i64 ld, .int .i64 ep, .int .i64 vr, .slice a1 isr.length c1, .slice a2 reps.length c2, .slice a3 add.length c3, .slice a4 rem.length c4, .int .i64 mn]] W fun e w' => e = .returned (.bool (rightB ⟨id, ld, ep, vr, isr, reps, add, rem, mn⟩)) ∧ Below W.heap.size W w') := fun W hb => right_any ⟨_, _, _, _, rfl, Q1.out.under hb, Q2.out.under hb, Q3.out.under hb, Q4.out.under hb, i0, i1, i2, i3, i4⟩
  have G15 : Hid (∀ W, Below w.heap.size w W → Calls Tryz.prog 62 #[.agg #[.int .i64 id, .int .i64 ld, .int .i64 ep, .int .i64 vr, .slice a1 isr.length c1, .slice a2 reps.length c2, .slice a3 add.length c3, .slice a4 rem.length c4, .int .i64 mn]] W fun e w' => ∃ v', e = .returned v' ∧ PartM w' v' ⟨id, ld, ep, vr, isr, reps, add, rem, mn⟩ ∧ InP (fun b => W.heap.size ≤ b) v' ⟨id, ld, ep, vr, isr, reps, add, rem, mn⟩ ∧ Below W.heap.size W w') := fun W hb => clone_any ⟨_, _, _, _, rfl, Q1.out.under hb, Q2.out.under hb, Q3.out.under hb, Q4.out.under hb, i0, i1, i2, i3, i4⟩
  have G47 : Hid (∀ W, TwoB w W #[.int .i64 id, .int .i64 ld, .int .i64 ep, .int .i64 vr, .slice a1 isr.length c1, .slice a2 reps.length c2, .slice a3 add.length c3, .slice a4 rem.length c4, .int .i64 mn] #[.int .i64 0, .int .i64 0, .int .i64 0, .int .i64 0, .slice none 0 0, .slice none 0 0, .slice none 0 0, .slice none 0 0, .int .i64 0] → Calls Tryz.prog 201 #[.slice ma t.length mc] W fun e w' => e = .returned (.bool (mayB t)) ∧ TwoB w w' #[.int .i64 id, .int .i64 ld, .int .i64 ep, .int .i64 vr, .slice a1 isr.length c1, .slice a2 reps.length c2, .slice a3 add.length c3, .slice a4 rem.length c4, .int .i64 mn] #[.int .i64 0, .int .i64 0, .int .i64 0, .int .i64 0, .slice none 0 0, .slice none 0 0, .slice none 0 0, .slice none 0 0, .int .i64 0]) := fun W hT => (mayT_any (QM.out.under hT.b)).mono fun e w' ⟨e1, e2⟩ => ⟨e1, hT.next e2⟩
  have G48 : Hid (∀ W, TwoB w W #[.int .i64 id, .int .i64 ld, .int .i64 ep, .int .i64 vr, .slice a1 isr.length c1, .slice a2 reps.length c2, .slice a3 add.length c3, .slice a4 rem.length c4, .int .i64 mn] #[.int .i64 0, .int .i64 0, .int .i64 0, .int .i64 0, .slice none 0 0, .slice none 0 0, .slice none 0 0, .slice none 0 0, .int .i64 0] → Calls Tryz.prog 202 #[.agg #[.int .i64 id, .int .i64 ld, .int .i64 ep, .int .i64 vr, .slice a1 isr.length c1, .slice a2 reps.length c2, .slice a3 add.length c3, .slice a4 rem.length c4, .int .i64 mn]] W fun e w' => e = .returned (.bool (movingB ⟨id, ld, ep, vr, isr, reps, add, rem, mn⟩)) ∧ TwoB w w' #[.int .i64 id, .int .i64 ld, .int .i64 ep, .int .i64 vr, .slice a1 isr.length c1, .slice a2 reps.length c2, .slice a3 add.length c3, .slice a4 rem.length c4, .int .i64 mn] #[.int .i64 0, .int .i64 0, .int .i64 0, .int .i64 0, .slice none 0 0, .slice none 0 0, .slice none 0 0, .slice none 0 0, .int .i64 0]) := fun W hT => (moving_any (HP.out W hT.b)).mono fun e w' ⟨e1, e2⟩ => ⟨e1, hT.next e2⟩
  have GA : Hid (∀ W, TwoB w W #[.int .i64 id, .int .i64 ld, .int .i64 ep, .int .i64 vr, .slice a1 isr.length c1, .slice a2 reps.length c2, .slice a3 add.length c3, .slice a4 rem.length c4, .int .i64 mn] #[.int .i64 0, .int .i64 0, .int .i64 0, .int .i64 0, .slice none 0 0, .slice none 0 0, .slice none 0 0, .slice none 0 0, .int .i64 0] → Calls Tryz.prog 181 #[.slice ma t.length mc, .func (.func 158) #[] #[], .slice a2 reps.length c2] W fun e w' => ∃ aa ac, e = .returned (.slice aa (outL t reps).length ac) ∧ IL w' (.slice aa (outL t reps).length ac) (outL t reps) ∧ In (fun b => w.heap.size + 2 ≤ b) (.slice aa (outL t reps).length ac) (outL t reps) ∧ TwoB w w' #[.int .i64 id, .int .i64 ld, .int .i64 ep, .int .i64 vr, .slice a1 isr.length c1, .slice a2 reps.length c2, .slice a3 add.length c3, .slice a4 rem.length c4, .int .i64 mn] #[.int .i64 0, .int .i64 0, .int .i64 0, .int .i64 0, .slice none 0 0, .slice none 0 0, .slice none 0 0, .slice none 0 0, .int .i64 0]) := fun W hT => (those50_any (QM.out.under hT.b) (Q2.out.under hT.b)).mono fun e w' ⟨v', e1, e2, e3, e4⟩ => by obtain ⟨aa, ac, rfl, _⟩ := e2.shape; exact ⟨aa, ac, e1, e2, e3.mono fun b hb => Nat.le_trans hT.s hb, hT.next e4⟩
  have G51 : Hid (∀ W aa ac, IL W (.slice aa (outL t reps).length ac) (outL t reps) → Below w.heap.size w W → Calls Tryz.prog 169 #[.slice aa (outL t reps).length ac, .func (.func 138) #[] #[], .slice ua up.length uc] W fun e w' => e = .returned (.bool ((outL t reps).all (hasB up))) ∧ W = w') := fun W aa ac h1 hb => areAll39_any h1 (QU.out.under hb)
  have G44 : Hid (∀ W, Below w.heap.size w W → Calls Tryz.prog 203 #[.slice a2 reps.length c2, .slice ma t.length mc] W fun e w' => e = .returned (.bool (decide (reps = t))) ∧ Below W.heap.size W w') := fun W hb => equal_any (Q2.out.under hb) (QM.out.under hb)
  have GR : Hid (∀ W, Below w.heap.size w W → Calls Tryz.prog 181 #[.slice a2 reps.length c2, .func (.func 158) #[] #[], .slice ma t.length mc] W fun e w' => ∃ v', e = .returned v' ∧ IL w' v' (outL reps t) ∧ In (fun b => W.heap.size ≤ b) v' (outL reps t) ∧ Below W.heap.size W w') := fun W hb => those50_any (Q2.out.under hb) (QM.out.under hb)
  have HE : Hid (beginP ⟨id, ld, ep, vr, isr, reps, add, rem, mn⟩ t up = if !rightB ⟨id, ld, ep, vr, isr, reps, add, rem, mn⟩ || !mayB t then (Pt.zero, 1) else if movingB ⟨id, ld, ep, vr, isr, reps, add, rem, mn⟩ then (Pt.zero, 19) else if !(outL t reps).all (hasB up) then (Pt.zero, 8) else if reps = t then (⟨id, ld, ep, vr, isr, reps, add, rem, mn⟩, 0) else changedP ⟨id, ld, ep, vr, isr, t ++ outL reps t, outL t reps, outL reps t, mn⟩ ld) := rfl
  have HBD : Hid (rightB ⟨id, ld, ep, vr, isr, reps, add, rem, mn⟩ = true → ((1 ≤ ep ∧ ep ≤ 1000000000) ∧ (1 ≤ vr ∧ vr ≤ 1000000000)) ∧ (outL reps t).length ≤ 7) := fun e => ⟨⟨(rightB_iff.1 e).epoch, (rightB_iff.1 e).ver⟩, Nat.le_trans (len_outL _ _) (ids_len (rightB_iff.1 e).reps)⟩
  have HMB : Hid (mayB t = true → 1 ≤ t.length ∧ t.length ≤ 5) := fun e => by
    have := (Bool.and_eq_true_iff.1 e).1
    have := upB_iff.1 this
    omega
  have HI : Hid (I64 id ∧ I64 ld ∧ I64 ep ∧ I64 vr ∧ I64 mn) := ⟨i0, i1, i2, i3, i4⟩
  have QM2 := hid QM.out.shape
  generalize beginP ⟨id, ld, ep, vr, isr, reps, add, rem, mn⟩ t up = r at *
  generalize hA : (outL t reps).all (hasB up) = B4 at *
  generalize outL t reps = A at *
  generalize outL reps t = R at *
  generalize hCC : t ++ R = C at *
  have HCC := hid hCC
  clear hCC
  generalize rightB ⟨id, ld, ep, vr, isr, reps, add, rem, mn⟩ = B1 at *
  generalize mayB t = B2 at *
  generalize movingB ⟨id, ld, ep, vr, isr, reps, add, rem, mn⟩ = B3 at *
  generalize hD : decide (reps = t) = B5 at *
  have HD := hid hD
  clear hA hD HP QU hm hu i0 i1 i2 i3 i4 Q1 Q2 Q3 Q4
  go_enter Tryz.func184, Tryz.ntmps184
  go_wp2_with fail
  generalize (w.alloc (.cells #[.int .i64 id, .int .i64 ld, .int .i64 ep, .int .i64 vr, .slice a1 isr.length c1, .slice a2 reps.length c2, .slice a3 add.length c3, .slice a4 rem.length c4, .int .i64 mn] 54)).alloc (.cells #[.int .i64 0, .int .i64 0, .int .i64 0, .int .i64 0, .slice none 0 0, .slice none 0 0, .slice none 0 0, .slice none 0 0, .int .i64 0] 54) = W0 at *
  refine (G12.out _ HT0.out.b).mono ?_
  rintro e W1 ⟨rfl, hb⟩
  have HT1 := hid (HT0.out.next hb)
  clear hb
  have k0 := cell_blk HT1.out.x 0 _ rfl
  have k1 := cell_blk HT1.out.x 1 _ rfl
  have k2 := cell_blk HT1.out.x 2 _ rfl
  have k3 := cell_blk HT1.out.x 3 _ rfl
  have k4 := cell_blk HT1.out.x 4 _ rfl
  have k5 := cell_blk HT1.out.x 5 _ rfl
  have k6 := cell_blk HT1.out.x 6 _ rfl
  have k7 := cell_blk HT1.out.x 7 _ rfl
  have k8 := cell_blk HT1.out.x 8 _ rfl
  have z0 := cell_blk HT1.out.z 0 _ rfl
  have z1 := cell_blk HT1.out.z 1 _ rfl
  have z2 := cell_blk HT1.out.z 2 _ rfl
  have z3 := cell_blk HT1.out.z 3 _ rfl
  have z4 := cell_blk HT1.out.z 4 _ rfl
  have z5 := cell_blk HT1.out.z 5 _ rfl
  have z6 := cell_blk HT1.out.z 6 _ rfl
  have z7 := cell_blk HT1.out.z 7 _ rfl
  have z8 := cell_blk HT1.out.z 8 _ rfl
  have fx := frz_blk HT1.out.x
  have fz := frz_blk HT1.out.z
  cases B1
  · have HR : Hid (r = (Pt.zero, 1)) := by show _ = _; rw [HE.out]; simp
    go_wp2_with fail
    obtain ⟨hoff, hsz9⟩ := nine_off W1 (w.heap.size + 1) (.int .i64 0) (.int .i64 0) (.int .i64 0) (.int .i64 0) (.slice none 0 0) (.slice none 0 0) (.slice none 0 0) (.slice none 0 0) (.int .i64 0)
    have HT9 := hid (nine_z HT1.out rfl (.int .i64 0) (.int .i64 0) (.int .i64 0) (.int .i64 0) (.slice none 0 0) (.slice none 0 0) (.slice none 0 0) (.slice none 0 0) (.int .i64 0))
    have HOFF := hid hoff
    clear hoff k0 k1 k2 k3 k4 k5 k6 k7 k8 z0 z1 z2 z3 z4 z5 z6 z7 z8 fx fz
    generalize (((((((((W1.setCell ⟨w.heap.size + 1, 0, none⟩ (.int .i64 0)).setCell ⟨w.heap.size + 1, 1, none⟩ (.int .i64 0)).setCell ⟨w.heap.size + 1, 2, none⟩ (.int .i64 0)).setCell ⟨w.heap.size + 1, 3, none⟩ (.int .i64 0)).setCell ⟨w.heap.size + 1, 4, none⟩ (.slice none 0 0)).setCell ⟨w.heap.size + 1, 5, none⟩ (.slice none 0 0)).setCell ⟨w.heap.size + 1, 6, none⟩ (.slice none 0 0)).setCell ⟨w.heap.size + 1, 7, none⟩ (.slice none 0 0)).setCell ⟨w.heap.size + 1, 8, none⟩ (.int .i64 0)) = W9 at *
    have r0 := cell_blk HT9.out.z 0 _ rfl
    have r1 := cell_blk HT9.out.z 1 _ rfl
    have r2 := cell_blk HT9.out.z 2 _ rfl
    have r3 := cell_blk HT9.out.z 3 _ rfl
    have r4 := cell_blk HT9.out.z 4 _ rfl
    have r5 := cell_blk HT9.out.z 5 _ rfl
    have r6 := cell_blk HT9.out.z 6 _ rfl
    have r7 := cell_blk HT9.out.z 7 _ rfl
    have r8 := cell_blk HT9.out.z 8 _ rfl
    exact bodyPost_ret (v := .tuple #[.agg #[.int .i64 0, .int .i64 0, .int .i64 0, .int .i64 0, .slice none 0 0, .slice none 0 0, .slice none 0 0, .slice none 0 0, .int .i64 0], .int .i64 1]) (by simp [results, Tryz.results184, go_sem, r0, r1, r2, r3, r4, r5, r6, r7, r8]) rfl (by rw [HR.out]; exact res_err _ HT9.out.b)
  obtain ⟨⟨hep, hvr⟩, hR7⟩ := HBD.out rfl
  go_wp2_with fail
  refine (G47.out _ HT1.out).mono ?_
  rintro e W2 ⟨rfl, t2⟩
  have HT2 := hid t2
  clear t2 k0 k1 k2 k3 k4 k5 k6 k7 k8 z0 z1 z2 z3 z4 z5 z6 z7 z8 fx fz
  have k0 := cell_blk HT2.out.x 0 _ rfl
  have k1 := cell_blk HT2.out.x 1 _ rfl
  have k2 := cell_blk HT2.out.x 2 _ rfl
  have k3 := cell_blk HT2.out.x 3 _ rfl
  have k4 := cell_blk HT2.out.x 4 _ rfl
  have k5 := cell_blk HT2.out.x 5 _ rfl
  have k6 := cell_blk HT2.out.x 6 _ rfl
  have k7 := cell_blk HT2.out.x 7 _ rfl
  have k8 := cell_blk HT2.out.x 8 _ rfl
  have z0 := cell_blk HT2.out.z 0 _ rfl
  have z1 := cell_blk HT2.out.z 1 _ rfl
  have z2 := cell_blk HT2.out.z 2 _ rfl
  have z3 := cell_blk HT2.out.z 3 _ rfl
  have z4 := cell_blk HT2.out.z 4 _ rfl
  have z5 := cell_blk HT2.out.z 5 _ rfl
  have z6 := cell_blk HT2.out.z 6 _ rfl
  have z7 := cell_blk HT2.out.z 7 _ rfl
  have z8 := cell_blk HT2.out.z 8 _ rfl
  have fx := frz_blk HT2.out.x
  have fz := frz_blk HT2.out.z
  cases B2
  · have HR : Hid (r = (Pt.zero, 1)) := by show _ = _; rw [HE.out]; simp
    go_wp2_with fail
    obtain ⟨hoff, hsz9⟩ := nine_off W2 (w.heap.size + 1) (.int .i64 0) (.int .i64 0) (.int .i64 0) (.int .i64 0) (.slice none 0 0) (.slice none 0 0) (.slice none 0 0) (.slice none 0 0) (.int .i64 0)
    have HT9 := hid (nine_z HT2.out rfl (.int .i64 0) (.int .i64 0) (.int .i64 0) (.int .i64 0) (.slice none 0 0) (.slice none 0 0) (.slice none 0 0) (.slice none 0 0) (.int .i64 0))
    have HOFF := hid hoff
    clear hoff k0 k1 k2 k3 k4 k5 k6 k7 k8 z0 z1 z2 z3 z4 z5 z6 z7 z8 fx fz
    generalize (((((((((W2.setCell ⟨w.heap.size + 1, 0, none⟩ (.int .i64 0)).setCell ⟨w.heap.size + 1, 1, none⟩ (.int .i64 0)).setCell ⟨w.heap.size + 1, 2, none⟩ (.int .i64 0)).setCell ⟨w.heap.size + 1, 3, none⟩ (.int .i64 0)).setCell ⟨w.heap.size + 1, 4, none⟩ (.slice none 0 0)).setCell ⟨w.heap.size + 1, 5, none⟩ (.slice none 0 0)).setCell ⟨w.heap.size + 1, 6, none⟩ (.slice none 0 0)).setCell ⟨w.heap.size + 1, 7, none⟩ (.slice none 0 0)).setCell ⟨w.heap.size + 1, 8, none⟩ (.int .i64 0)) = W9 at *
    have r0 := cell_blk HT9.out.z 0 _ rfl
    have r1 := cell_blk HT9.out.z 1 _ rfl
    have r2 := cell_blk HT9.out.z 2 _ rfl
    have r3 := cell_blk HT9.out.z 3 _ rfl
    have r4 := cell_blk HT9.out.z 4 _ rfl
    have r5 := cell_blk HT9.out.z 5 _ rfl
    have r6 := cell_blk HT9.out.z 6 _ rfl
    have r7 := cell_blk HT9.out.z 7 _ rfl
    have r8 := cell_blk HT9.out.z 8 _ rfl
    exact bodyPost_ret (v := .tuple #[.agg #[.int .i64 0, .int .i64 0, .int .i64 0, .int .i64 0, .slice none 0 0, .slice none 0 0, .slice none 0 0, .slice none 0 0, .int .i64 0], .int .i64 1]) (by simp [results, Tryz.results184, go_sem, r0, r1, r2, r3, r4, r5, r6, r7, r8]) rfl (by rw [HR.out]; exact res_err _ HT9.out.b)
  obtain ⟨ht1, ht5⟩ := HMB.out rfl
  go_wp2_with fail
  refine (G48.out _ HT2.out).mono ?_
  rintro e W3 ⟨rfl, t2⟩
  have HT3 := hid t2
  clear t2 k0 k1 k2 k3 k4 k5 k6 k7 k8 z0 z1 z2 z3 z4 z5 z6 z7 z8 fx fz
  have k0 := cell_blk HT3.out.x 0 _ rfl
  have k1 := cell_blk HT3.out.x 1 _ rfl
  have k2 := cell_blk HT3.out.x 2 _ rfl
  have k3 := cell_blk HT3.out.x 3 _ rfl
  have k4 := cell_blk HT3.out.x 4 _ rfl
  have k5 := cell_blk HT3.out.x 5 _ rfl
  have k6 := cell_blk HT3.out.x 6 _ rfl
  have k7 := cell_blk HT3.out.x 7 _ rfl
  have k8 := cell_blk HT3.out.x 8 _ rfl
  have z0 := cell_blk HT3.out.z 0 _ rfl
  have z1 := cell_blk HT3.out.z 1 _ rfl
  have z2 := cell_blk HT3.out.z 2 _ rfl
  have z3 := cell_blk HT3.out.z 3 _ rfl
  have z4 := cell_blk HT3.out.z 4 _ rfl
  have z5 := cell_blk HT3.out.z 5 _ rfl
  have z6 := cell_blk HT3.out.z 6 _ rfl
  have z7 := cell_blk HT3.out.z 7 _ rfl
  have z8 := cell_blk HT3.out.z 8 _ rfl
  have fx := frz_blk HT3.out.x
  have fz := frz_blk HT3.out.z
  cases B3
  case true =>
    have HR : Hid (r = (Pt.zero, 19)) := by show _ = _; rw [HE.out]; simp
    go_wp2_with fail
    obtain ⟨hoff, hsz9⟩ := nine_off W3 (w.heap.size + 1) (.int .i64 0) (.int .i64 0) (.int .i64 0) (.int .i64 0) (.slice none 0 0) (.slice none 0 0) (.slice none 0 0) (.slice none 0 0) (.int .i64 0)
    have HT9 := hid (nine_z HT3.out rfl (.int .i64 0) (.int .i64 0) (.int .i64 0) (.int .i64 0) (.slice none 0 0) (.slice none 0 0) (.slice none 0 0) (.slice none 0 0) (.int .i64 0))
    have HOFF := hid hoff
    clear hoff k0 k1 k2 k3 k4 k5 k6 k7 k8 z0 z1 z2 z3 z4 z5 z6 z7 z8 fx fz
    generalize (((((((((W3.setCell ⟨w.heap.size + 1, 0, none⟩ (.int .i64 0)).setCell ⟨w.heap.size + 1, 1, none⟩ (.int .i64 0)).setCell ⟨w.heap.size + 1, 2, none⟩ (.int .i64 0)).setCell ⟨w.heap.size + 1, 3, none⟩ (.int .i64 0)).setCell ⟨w.heap.size + 1, 4, none⟩ (.slice none 0 0)).setCell ⟨w.heap.size + 1, 5, none⟩ (.slice none 0 0)).setCell ⟨w.heap.size + 1, 6, none⟩ (.slice none 0 0)).setCell ⟨w.heap.size + 1, 7, none⟩ (.slice none 0 0)).setCell ⟨w.heap.size + 1, 8, none⟩ (.int .i64 0)) = W9 at *
    have r0 := cell_blk HT9.out.z 0 _ rfl
    have r1 := cell_blk HT9.out.z 1 _ rfl
    have r2 := cell_blk HT9.out.z 2 _ rfl
    have r3 := cell_blk HT9.out.z 3 _ rfl
    have r4 := cell_blk HT9.out.z 4 _ rfl
    have r5 := cell_blk HT9.out.z 5 _ rfl
    have r6 := cell_blk HT9.out.z 6 _ rfl
    have r7 := cell_blk HT9.out.z 7 _ rfl
    have r8 := cell_blk HT9.out.z 8 _ rfl
    exact bodyPost_ret (v := .tuple #[.agg #[.int .i64 0, .int .i64 0, .int .i64 0, .int .i64 0, .slice none 0 0, .slice none 0 0, .slice none 0 0, .slice none 0 0, .int .i64 0], .int .i64 19]) (by simp [results, Tryz.results184, go_sem, r0, r1, r2, r3, r4, r5, r6, r7, r8]) rfl (by rw [HR.out]; exact res_err _ HT9.out.b)
  go_wp2_with fail
  refine (GA.out _ HT3.out).mono ?_
  rintro e W4 ⟨aa, ac, rfl, ia, na, t2⟩
  have HT4 := hid t2
  have IA4 := hid ia
  have NA := hid na
  clear t2 ia na k0 k1 k2 k3 k4 k5 k6 k7 k8 z0 z1 z2 z3 z4 z5 z6 z7 z8 fx fz
  have k0 := cell_blk HT4.out.x 0 _ rfl
  have k1 := cell_blk HT4.out.x 1 _ rfl
  have k2 := cell_blk HT4.out.x 2 _ rfl
  have k3 := cell_blk HT4.out.x 3 _ rfl
  have k4 := cell_blk HT4.out.x 4 _ rfl
  have k5 := cell_blk HT4.out.x 5 _ rfl
  have k6 := cell_blk HT4.out.x 6 _ rfl
  have k7 := cell_blk HT4.out.x 7 _ rfl
  have k8 := cell_blk HT4.out.x 8 _ rfl
  have z0 := cell_blk HT4.out.z 0 _ rfl
  have z1 := cell_blk HT4.out.z 1 _ rfl
  have z2 := cell_blk HT4.out.z 2 _ rfl
  have z3 := cell_blk HT4.out.z 3 _ rfl
  have z4 := cell_blk HT4.out.z 4 _ rfl
  have z5 := cell_blk HT4.out.z 5 _ rfl
  have z6 := cell_blk HT4.out.z 6 _ rfl
  have z7 := cell_blk HT4.out.z 7 _ rfl
  have z8 := cell_blk HT4.out.z 8 _ rfl
  have fx := frz_blk HT4.out.x
  have fz := frz_blk HT4.out.z
  go_wp2_with fail
  refine (G51.out _ _ _ IA4.out HT4.out.b).mono ?_
  rintro e W5 ⟨rfl, rfl⟩
  cases B4
  · have HR : Hid (r = (Pt.zero, 8)) := by show _ = _; rw [HE.out]; simp
    go_wp2_with fail
    obtain ⟨hoff, hsz9⟩ := nine_off W4 (w.heap.size + 1) (.int .i64 0) (.int .i64 0) (.int .i64 0) (.int .i64 0) (.slice none 0 0) (.slice none 0 0) (.slice none 0 0) (.slice none 0 0) (.int .i64 0)
    have HT9 := hid (nine_z HT4.out rfl (.int .i64 0) (.int .i64 0) (.int .i64 0) (.int .i64 0) (.slice none 0 0) (.slice none 0 0) (.slice none 0 0) (.slice none 0 0) (.int .i64 0))
    have HOFF := hid hoff
    clear hoff k0 k1 k2 k3 k4 k5 k6 k7 k8 z0 z1 z2 z3 z4 z5 z6 z7 z8 fx fz
    generalize (((((((((W4.setCell ⟨w.heap.size + 1, 0, none⟩ (.int .i64 0)).setCell ⟨w.heap.size + 1, 1, none⟩ (.int .i64 0)).setCell ⟨w.heap.size + 1, 2, none⟩ (.int .i64 0)).setCell ⟨w.heap.size + 1, 3, none⟩ (.int .i64 0)).setCell ⟨w.heap.size + 1, 4, none⟩ (.slice none 0 0)).setCell ⟨w.heap.size + 1, 5, none⟩ (.slice none 0 0)).setCell ⟨w.heap.size + 1, 6, none⟩ (.slice none 0 0)).setCell ⟨w.heap.size + 1, 7, none⟩ (.slice none 0 0)).setCell ⟨w.heap.size + 1, 8, none⟩ (.int .i64 0)) = W9 at *
    have r0 := cell_blk HT9.out.z 0 _ rfl
    have r1 := cell_blk HT9.out.z 1 _ rfl
    have r2 := cell_blk HT9.out.z 2 _ rfl
    have r3 := cell_blk HT9.out.z 3 _ rfl
    have r4 := cell_blk HT9.out.z 4 _ rfl
    have r5 := cell_blk HT9.out.z 5 _ rfl
    have r6 := cell_blk HT9.out.z 6 _ rfl
    have r7 := cell_blk HT9.out.z 7 _ rfl
    have r8 := cell_blk HT9.out.z 8 _ rfl
    exact bodyPost_ret (v := .tuple #[.agg #[.int .i64 0, .int .i64 0, .int .i64 0, .int .i64 0, .slice none 0 0, .slice none 0 0, .slice none 0 0, .slice none 0 0, .int .i64 0], .int .i64 8]) (by simp [results, Tryz.results184, go_sem, r0, r1, r2, r3, r4, r5, r6, r7, r8]) rfl (by rw [HR.out]; exact res_err _ HT9.out.b)
  have HE2 : Hid (r = if reps = t then (⟨id, ld, ep, vr, isr, reps, add, rem, mn⟩, 0) else changedP ⟨id, ld, ep, vr, isr, C, A, R, mn⟩ ld) := by show _ = _; rw [HE.out]; simp
  clear HE
  go_wp2_with fail
  refine (G15.out _ HT4.out.b).mono ?_
  rintro e W5 ⟨v', rfl, h1, h2, hb⟩
  have h2' := h2.mono (Y := fun b => w.heap.size + 2 ≤ b) fun b hx => Nat.le_trans HT4.out.s hx
  obtain ⟨x1, y1, x2, y2, x3, y3, x4, y4, rfl, q1, q2, q3, q4, ii⟩ := h1.open
  obtain ⟨n1, n2, n3, n4⟩ := h2' _ _ _ _ _ _ _ _ _ rfl
  simp only at q1 q2 q3 q4 n1 n2 n3 n4 ii
  have HT5 := hid (HT4.out.next hb)
  have H3 := hid (three_new HT5.out #[.int .i64 id, .int .i64 ld, .int .i64 ep, .int .i64 vr, .slice x1 isr.length y1, .slice x2 reps.length y2, .slice x3 add.length y3, .slice x4 rem.length y4, .int .i64 mn])
  have P1 := hid (ln_old q1 n1 #[.int .i64 id, .int .i64 ld, .int .i64 ep, .int .i64 vr, .slice x1 isr.length y1, .slice x2 reps.length y2, .slice x3 add.length y3, .slice x4 rem.length y4, .int .i64 mn])
  have P2 := hid (ln_old q2 n2 #[.int .i64 id, .int .i64 ld, .int .i64 ep, .int .i64 vr, .slice x1 isr.length y1, .slice x2 reps.length y2, .slice x3 add.length y3, .slice x4 rem.length y4, .int .i64 mn])
  have P3 := hid (ln_old q3 n3 #[.int .i64 id, .int .i64 ld, .int .i64 ep, .int .i64 vr, .slice x1 isr.length y1, .slice x2 reps.length y2, .slice x3 add.length y3, .slice x4 rem.length y4, .int .i64 mn])
  have P4 := hid (ln_old q4 n4 #[.int .i64 id, .int .i64 ld, .int .i64 ep, .int .i64 vr, .slice x1 isr.length y1, .slice x2 reps.length y2, .slice x3 add.length y3, .slice x4 rem.length y4, .int .i64 mn])
  have PA := hid (ln_old (IA4.out.under hb) NA.out #[.int .i64 id, .int .i64 ld, .int .i64 ep, .int .i64 vr, .slice x1 isr.length y1, .slice x2 reps.length y2, .slice x3 add.length y3, .slice x4 rem.length y4, .int .i64 mn])
  have hs4 := HT5.out.s
  clear q1 q2 q3 q4 n1 n2 n3 n4 ii h1 h2 h2' hb k0 k1 k2 k3 k4 k5 k6 k7 k8 z0 z1 z2 z3 z4 z5 z6 z7 z8 fx fz
  have k0 := cell_blk HT5.out.x 0 _ rfl
  have k1 := cell_blk HT5.out.x 1 _ rfl
  have k2 := cell_blk HT5.out.x 2 _ rfl
  have k3 := cell_blk HT5.out.x 3 _ rfl
  have k4 := cell_blk HT5.out.x 4 _ rfl
  have k5 := cell_blk HT5.out.x 5 _ rfl
  have k6 := cell_blk HT5.out.x 6 _ rfl
  have k7 := cell_blk HT5.out.x 7 _ rfl
  have k8 := cell_blk HT5.out.x 8 _ rfl
  have z0 := cell_blk HT5.out.z 0 _ rfl
  have z1 := cell_blk HT5.out.z 1 _ rfl
  have z2 := cell_blk HT5.out.z 2 _ rfl
  have z3 := cell_blk HT5.out.z 3 _ rfl
  have z4 := cell_blk HT5.out.z 4 _ rfl
  have z5 := cell_blk HT5.out.z 5 _ rfl
  have z6 := cell_blk HT5.out.z 6 _ rfl
  have z7 := cell_blk HT5.out.z 7 _ rfl
  have z8 := cell_blk HT5.out.z 8 _ rfl
  have fx := frz_blk HT5.out.x
  have fz := frz_blk HT5.out.z
  have hne : w.heap.size < W5.heap.size := by omega
  go_wp2_with fail
  clear k0 k1 k2 k3 k4 k5 k6 k7 k8 z0 z1 z2 z3 z4 z5 z6 z7 z8 fx fz
  generalize W5.alloc (.cells #[.int .i64 id, .int .i64 ld, .int .i64 ep, .int .i64 vr, .slice x1 isr.length y1, .slice x2 reps.length y2, .slice x3 add.length y3, .slice x4 rem.length y4, .int .i64 mn] 54) = W6 at *
  generalize W5.heap.size = q at *
  refine (G44.out _ H3.out.t.b).mono ?_
  rintro e W7 ⟨rfl, hb⟩
  have H7 := hid (H3.out.next hb)
  have HT7 := hid H7.out.t
  have M1 := hid (P1.out.under hb)
  have M2 := hid (P2.out.under hb)
  have M3 := hid (P3.out.under hb)
  have M4 := hid (P4.out.under hb)
  have MA := hid (PA.out.under hb)
  clear hb P1 P2 P3 P4 PA
  have n0 := cell_blk H7.out.n 0 _ rfl
  have n1 := cell_blk H7.out.n 1 _ rfl
  have n2 := cell_blk H7.out.n 2 _ rfl
  have n3 := cell_blk H7.out.n 3 _ rfl
  have n4 := cell_blk H7.out.n 4 _ rfl
  have n5 := cell_blk H7.out.n 5 _ rfl
  have n6 := cell_blk H7.out.n 6 _ rfl
  have n7 := cell_blk H7.out.n 7 _ rfl
  have n8 := cell_blk H7.out.n 8 _ rfl
  have fn := frz_blk H7.out.n
  have k0 := cell_blk HT7.out.x 0 _ rfl
  have k1 := cell_blk HT7.out.x 1 _ rfl
  have k2 := cell_blk HT7.out.x 2 _ rfl
  have k3 := cell_blk HT7.out.x 3 _ rfl
  have k4 := cell_blk HT7.out.x 4 _ rfl
  have k5 := cell_blk HT7.out.x 5 _ rfl
  have k6 := cell_blk HT7.out.x 6 _ rfl
  have k7 := cell_blk HT7.out.x 7 _ rfl
  have k8 := cell_blk HT7.out.x 8 _ rfl
  have z0 := cell_blk HT7.out.z 0 _ rfl
  have z1 := cell_blk HT7.out.z 1 _ rfl
  have z2 := cell_blk HT7.out.z 2 _ rfl
  have z3 := cell_blk HT7.out.z 3 _ rfl
  have z4 := cell_blk HT7.out.z 4 _ rfl
  have z5 := cell_blk HT7.out.z 5 _ rfl
  have z6 := cell_blk HT7.out.z 6 _ rfl
  have z7 := cell_blk HT7.out.z 7 _ rfl
  have z8 := cell_blk HT7.out.z 8 _ rfl
  have fx := frz_blk HT7.out.x
  have fz := frz_blk HT7.out.z
  cases B5
  case true =>
    have HR : Hid (r = (⟨id, ld, ep, vr, isr, reps, add, rem, mn⟩, 0)) := by show _ = _; rw [HE2.out, if_pos (of_decide_eq_true HD.out)]
    go_wp2_with fail
    obtain ⟨hoff, hsz9⟩ := nine_off W7 (w.heap.size + 1) (.int .i64 id) (.int .i64 ld) (.int .i64 ep) (.int .i64 vr) (.slice x1 isr.length y1) (.slice x2 reps.length y2) (.slice x3 add.length y3) (.slice x4 rem.length y4) (.int .i64 mn)
    have HT9 := hid (nine_z HT7.out rfl (.int .i64 id) (.int .i64 ld) (.int .i64 ep) (.int .i64 vr) (.slice x1 isr.length y1) (.slice x2 reps.length y2) (.slice x3 add.length y3) (.slice x4 rem.length y4) (.int .i64 mn))
    have HOFF := hid hoff
    clear hoff k0 k1 k2 k3 k4 k5 k6 k7 k8 z0 z1 z2 z3 z4 z5 z6 z7 z8 fx fz n0 n1 n2 n3 n4 n5 n6 n7 n8 fn
    generalize (((((((((W7.setCell ⟨w.heap.size + 1, 0, none⟩ (.int .i64 id)).setCell ⟨w.heap.size + 1, 1, none⟩ (.int .i64 ld)).setCell ⟨w.heap.size + 1, 2, none⟩ (.int .i64 ep)).setCell ⟨w.heap.size + 1, 3, none⟩ (.int .i64 vr)).setCell ⟨w.heap.size + 1, 4, none⟩ (.slice x1 isr.length y1)).setCell ⟨w.heap.size + 1, 5, none⟩ (.slice x2 reps.length y2)).setCell ⟨w.heap.size + 1, 6, none⟩ (.slice x3 add.length y3)).setCell ⟨w.heap.size + 1, 7, none⟩ (.slice x4 rem.length y4)).setCell ⟨w.heap.size + 1, 8, none⟩ (.int .i64 mn)) = W9 at *
    have r0 := cell_blk HT9.out.z 0 _ rfl
    have r1 := cell_blk HT9.out.z 1 _ rfl
    have r2 := cell_blk HT9.out.z 2 _ rfl
    have r3 := cell_blk HT9.out.z 3 _ rfl
    have r4 := cell_blk HT9.out.z 4 _ rfl
    have r5 := cell_blk HT9.out.z 5 _ rfl
    have r6 := cell_blk HT9.out.z 6 _ rfl
    have r7 := cell_blk HT9.out.z 7 _ rfl
    have r8 := cell_blk HT9.out.z 8 _ rfl
    exact bodyPost_ret (v := .tuple #[.agg #[.int .i64 id, .int .i64 ld, .int .i64 ep, .int .i64 vr, .slice x1 isr.length y1, .slice x2 reps.length y2, .slice x3 add.length y3, .slice x4 rem.length y4, .int .i64 mn], .int .i64 0]) (by simp [results, Tryz.results184, go_sem, r0, r1, r2, r3, r4, r5, r6, r7, r8]) rfl (by rw [HR.out]; exact ⟨_, rfl, ⟨_, _, _, _, rfl, M1.out.ia.offz HOFF.out hsz9, M2.out.ia.offz HOFF.out hsz9, M3.out.ia.offz HOFF.out hsz9, M4.out.ia.offz HOFF.out hsz9, HI.out⟩, (inP_of (M1.out.in.mono fun b hb => by omega) (M2.out.in.mono fun b hb => by omega) (M3.out.in.mono fun b hb => by omega) (M4.out.in.mono fun b hb => by omega)), HT9.out.b⟩)
  have HR : Hid (r = changedP ⟨id, ld, ep, vr, isr, C, A, R, mn⟩ ld) := by show _ = _; rw [HE2.out, if_neg (of_decide_eq_false HD.out)]
  clear HE2 HD
  have hnq : ¬ q = w.heap.size := by have := H7.out.lo; omega
  have hnq2 : ¬ w.heap.size = q := by have := H7.out.lo; omega
  go_wp2_with fail
  have H8 : Hid (ThreeB w (W7.setCell ⟨q, 6, none⟩ (.slice aa A.length ac)) q #[.int .i64 id, .int .i64 ld, .int .i64 ep, .int .i64 vr, .slice a1 isr.length c1, .slice a2 reps.length c2, .slice a3 add.length c3, .slice a4 rem.length c4, .int .i64 mn] #[.int .i64 0, .int .i64 0, .int .i64 0, .int .i64 0, .slice none 0 0, .slice none 0 0, .slice none 0 0, .slice none 0 0, .int .i64 0] #[.int .i64 id, .int .i64 ld, .int .i64 ep, .int .i64 vr, .slice x1 isr.length y1, .slice x2 reps.length y2, .slice aa A.length ac, .slice x4 rem.length y4, .int .i64 mn]) := H7.out.setn 6 _
  have P1 := hid (M1.out.setn 6 (.slice aa A.length ac))
  have PA := hid (MA.out.setn 6 (.slice aa A.length ac))
  clear k0 k1 k2 k3 k4 k5 k6 k7 k8 z0 z1 z2 z3 z4 z5 z6 z7 z8 fx fz n0 n1 n2 n3 n4 n5 n6 n7 n8 fn M1 M2 M3 M4 MA H7 HT7
  generalize W7.setCell ⟨q, 6, none⟩ (.slice aa A.length ac) = W8 at *
  refine (GR.out _ H8.out.t.b).mono ?_
  rintro e W9 ⟨v', rfl, h1, h2, hb⟩
  obtain ⟨ra, rc, rfl, _⟩ := h1.shape
  have H9 := hid (H8.out.next hb)
  have MR := hid (ln_new (w := w) h1 h2 H8.out.hi H8.out.lo)
  have M1 := hid (P1.out.under hb)
  have MA := hid (PA.out.under hb)
  clear h1 h2 hb P1 PA H8
  have n0 := cell_blk H9.out.n 0 _ rfl
  have n1 := cell_blk H9.out.n 1 _ rfl
  have n2 := cell_blk H9.out.n 2 _ rfl
  have n3 := cell_blk H9.out.n 3 _ rfl
  have n4 := cell_blk H9.out.n 4 _ rfl
  have n5 := cell_blk H9.out.n 5 _ rfl
  have n6 := cell_blk H9.out.n 6 _ rfl
  have n7 := cell_blk H9.out.n 7 _ rfl
  have n8 := cell_blk H9.out.n 8 _ rfl
  have fn := frz_blk H9.out.n
  go_upto_region 13 with fail
  have H10 : Hid (ThreeB w (W9.setCell ⟨q, 7, none⟩ (.slice ra R.length rc)) q #[.int .i64 id, .int .i64 ld, .int .i64 ep, .int .i64 vr, .slice a1 isr.length c1, .slice a2 reps.length c2, .slice a3 add.length c3, .slice a4 rem.length c4, .int .i64 mn] #[.int .i64 0, .int .i64 0, .int .i64 0, .int .i64 0, .slice none 0 0, .slice none 0 0, .slice none 0 0, .slice none 0 0, .int .i64 0] #[.int .i64 id, .int .i64 ld, .int .i64 ep, .int .i64 vr, .slice x1 isr.length y1, .slice x2 reps.length y2, .slice aa A.length ac, .slice ra R.length rc, .int .i64 mn]) := H9.out.setn 7 _
  have P1 := hid (M1.out.setn 7 (.slice ra R.length rc))
  have PA := hid (MA.out.setn 7 (.slice ra R.length rc))
  have PR := hid (MR.out.setn 7 (.slice ra R.length rc))
  clear n0 n1 n2 n3 n4 n5 n6 n7 n8 fn M1 MA MR H9
  generalize W9.setCell ⟨q, 7, none⟩ (.slice ra R.length rc) = W10 at *
  have n0 := cell_blk H10.out.n 0 _ rfl
  have n1 := cell_blk H10.out.n 1 _ rfl
  have n2 := cell_blk H10.out.n 2 _ rfl
  have n3 := cell_blk H10.out.n 3 _ rfl
  have n4 := cell_blk H10.out.n 4 _ rfl
  have n5 := cell_blk H10.out.n 5 _ rfl
  have n6 := cell_blk H10.out.n 6 _ rfl
  have n7 := cell_blk H10.out.n 7 _ rfl
  have n8 := cell_blk H10.out.n 8 _ rfl
  obtain ⟨_, _, e9, _, _, _, h4⟩ := QM2.out
  cases e9
  obtain ⟨tb, toff, rfl, _⟩ := h4 (by intro e; rw [e] at ht1; simp at ht1)
  clear h4
  have hq10 : q < W10.heap.size := H10.out.hi
  go_wp2_with fail
  have HBA : Hid (Below W10.heap.size W10 (W10.alloc (.cells #[.slice (some ⟨tb, toff, none⟩) t.length mc, .slice ra R.length rc] 23))) := (Below.refl _ _).alloc (Nat.le_refl _) _
  have H11 := hid (H10.out.next HBA.out)
  have P1' := hid (P1.out.under HBA.out)
  have PA' := hid (PA.out.under HBA.out)
  have PR' := hid (PR.out.under HBA.out)
  have HG : Hid ((W10.alloc (.cells #[.slice (some ⟨tb, toff, none⟩) t.length mc, .slice ra R.length rc] 23)).heap[W10.heap.size]? = some (.cells #[.slice (some ⟨tb, toff, none⟩) t.length mc, .slice ra R.length rc] 23)) := heap_alloc_new _ _
  clear n0 n1 n2 n3 n4 n5 n6 n7 n8 P1 PA PR H10
  generalize W10.alloc (.cells #[.slice (some ⟨tb, toff, none⟩) t.length mc, .slice ra R.length rc] 23) = W11 at *
  have G52 := hid (concat_any (QM.out.under H11.out.t.b) PR'.out.1 HG.out ht1 (by omega))
  rw [HCC.out] at G52
  refine G52.out.mono ?_
  rintro e W12 ⟨v', rfl, h1, h2, hb⟩
  obtain ⟨ca, cc, rfl, _⟩ := h1.shape
  have H12 := hid (H11.out.next hb)
  have MC := hid (ln_new (w := w) h1 h2 H11.out.hi H11.out.lo)
  have M1 := hid (P1'.out.under hb)
  have MA := hid (PA'.out.under hb)
  have MR := hid (PR'.out.under hb)
  clear h1 h2 hb P1' PA' PR' H11 HG HBA
  have n0 := cell_blk H12.out.n 0 _ rfl
  have n1 := cell_blk H12.out.n 1 _ rfl
  have n2 := cell_blk H12.out.n 2 _ rfl
  have n3 := cell_blk H12.out.n 3 _ rfl
  have n4 := cell_blk H12.out.n 4 _ rfl
  have n5 := cell_blk H12.out.n 5 _ rfl
  have n6 := cell_blk H12.out.n 6 _ rfl
  have n7 := cell_blk H12.out.n 7 _ rfl
  have n8 := cell_blk H12.out.n 8 _ rfl
  have fn := frz_blk H12.out.n
  go_upto_region 14 with fail
  have H13 : Hid (ThreeB w (W12.setCell ⟨q, 5, none⟩ (.slice ca C.length cc)) q #[.int .i64 id, .int .i64 ld, .int .i64 ep, .int .i64 vr, .slice a1 isr.length c1, .slice a2 reps.length c2, .slice a3 add.length c3, .slice a4 rem.length c4, .int .i64 mn] #[.int .i64 0, .int .i64 0, .int .i64 0, .int .i64 0, .slice none 0 0, .slice none 0 0, .slice none 0 0, .slice none 0 0, .int .i64 0] #[.int .i64 id, .int .i64 ld, .int .i64 ep, .int .i64 vr, .slice x1 isr.length y1, .slice ca C.length cc, .slice aa A.length ac, .slice ra R.length rc, .int .i64 mn]) := H12.out.setn 5 _
  have P1 := hid (M1.out.setn 5 (.slice ca C.length cc))
  have PA := hid (MA.out.setn 5 (.slice ca C.length cc))
  have PR := hid (MR.out.setn 5 (.slice ca C.length cc))
  have PC := hid (MC.out.setn 5 (.slice ca C.length cc))
  clear n0 n1 n2 n3 n4 n5 n6 n7 n8 fn M1 MA MR MC H12
  generalize W12.setCell ⟨q, 5, none⟩ (.slice ca C.length cc) = W13 at *
  have HT13 := hid H13.out.t
  have k0 := cell_blk HT13.out.x 0 _ rfl
  have k1 := cell_blk HT13.out.x 1 _ rfl
  have k2 := cell_blk HT13.out.x 2 _ rfl
  have k3 := cell_blk HT13.out.x 3 _ rfl
  have k4 := cell_blk HT13.out.x 4 _ rfl
  have k5 := cell_blk HT13.out.x 5 _ rfl
  have k6 := cell_blk HT13.out.x 6 _ rfl
  have k7 := cell_blk HT13.out.x 7 _ rfl
  have k8 := cell_blk HT13.out.x 8 _ rfl
  have z0 := cell_blk HT13.out.z 0 _ rfl
  have z1 := cell_blk HT13.out.z 1 _ rfl
  have z2 := cell_blk HT13.out.z 2 _ rfl
  have z3 := cell_blk HT13.out.z 3 _ rfl
  have z4 := cell_blk HT13.out.z 4 _ rfl
  have z5 := cell_blk HT13.out.z 5 _ rfl
  have z6 := cell_blk HT13.out.z 6 _ rfl
  have z7 := cell_blk HT13.out.z 7 _ rfl
  have z8 := cell_blk HT13.out.z 8 _ rfl
  have fx := frz_blk HT13.out.x
  have fz := frz_blk HT13.out.z
  have n0 := cell_blk H13.out.n 0 _ rfl
  have n1 := cell_blk H13.out.n 1 _ rfl
  have n2 := cell_blk H13.out.n 2 _ rfl
  have n3 := cell_blk H13.out.n 3 _ rfl
  have n4 := cell_blk H13.out.n 4 _ rfl
  have n5 := cell_blk H13.out.n 5 _ rfl
  have n6 := cell_blk H13.out.n 6 _ rfl
  have n7 := cell_blk H13.out.n 7 _ rfl
  have n8 := cell_blk H13.out.n 8 _ rfl
  have G53 := hid (changed_any (X := fun b => w.heap.size + 2 ≤ b) (w := W13) (v := .agg #[.int .i64 id, .int .i64 ld, .int .i64 ep, .int .i64 vr, .slice x1 isr.length y1, .slice ca C.length cc, .slice aa A.length ac, .slice ra R.length rc, .int .i64 mn]) (p := ⟨id, ld, ep, vr, isr, C, A, R, mn⟩) ⟨_, _, _, _, rfl, P1.out.1, PC.out.1, PA.out.1, PR.out.1, HI.out⟩ (inP_of P1.out.in PC.out.in PA.out.in PR.out.in) ld HI.out.2.1 hep hvr)
  have HR2 := hid HR.out
  clear HR
  generalize changedP ⟨id, ld, ep, vr, isr, C, A, R, mn⟩ ld = r2 at *
  obtain ⟨⟨rid, rld, rep, rvr, rl1, rl2, rl3, rl4, rmn⟩, re⟩ := r2
  go_wp2_with fail
  refine G53.out.mono ?_
  rintro e W14 ⟨v', rfl, h1, h2, hb⟩
  obtain ⟨t1, u1, t2, u2, t3, u3, t4, u4, rfl, q1, q2, q3, q4, ii⟩ := h1.open
  obtain ⟨n1, n2, n3, n4⟩ := h2 _ _ _ _ _ _ _ _ _ rfl
  simp only at q1 q2 q3 q4 n1 n2 n3 n4 ii
  have HT14 := hid (HT13.out.next hb)
  have HL : Hid (IA w W14 (.slice t1 rl1.length u1) rl1 ∧ IA w W14 (.slice t2 rl2.length u2) rl2 ∧ IA w W14 (.slice t3 rl3.length u3) rl3 ∧ IA w W14 (.slice t4 rl4.length u4) rl4) := ⟨⟨q1, n1.mono fun b hx => .inr hx⟩, ⟨q2, n2.mono fun b hx => .inr hx⟩, ⟨q3, n3.mono fun b hx => .inr hx⟩, ⟨q4, n4.mono fun b hx => .inr hx⟩⟩
  have HN : Hid (InP (fun b => w.heap.size ≤ b) (.agg #[.int .i64 rid, .int .i64 rld, .int .i64 rep, .int .i64 rvr, .slice t1 rl1.length u1, .slice t2 rl2.length u2, .slice t3 rl3.length u3, .slice t4 rl4.length u4, .int .i64 rmn]) ⟨rid, rld, rep, rvr, rl1, rl2, rl3, rl4, rmn⟩) := h2.mono fun b hx => by omega
  have HI2 := hid ii
  clear q1 q2 q3 q4 n1 n2 n3 n4 ii h1 h2 hb k0 k1 k2 k3 k4 k5 k6 k7 k8 z0 z1 z2 z3 z4 z5 z6 z7 z8 fx fz
  have k0 := cell_blk HT14.out.x 0 _ rfl
  have k1 := cell_blk HT14.out.x 1 _ rfl
  have k2 := cell_blk HT14.out.x 2 _ rfl
  have k3 := cell_blk HT14.out.x 3 _ rfl
  have k4 := cell_blk HT14.out.x 4 _ rfl
  have k5 := cell_blk HT14.out.x 5 _ rfl
  have k6 := cell_blk HT14.out.x 6 _ rfl
  have k7 := cell_blk HT14.out.x 7 _ rfl
  have k8 := cell_blk HT14.out.x 8 _ rfl
  have z0 := cell_blk HT14.out.z 0 _ rfl
  have z1 := cell_blk HT14.out.z 1 _ rfl
  have z2 := cell_blk HT14.out.z 2 _ rfl
  have z3 := cell_blk HT14.out.z 3 _ rfl
  have z4 := cell_blk HT14.out.z 4 _ rfl
  have z5 := cell_blk HT14.out.z 5 _ rfl
  have z6 := cell_blk HT14.out.z 6 _ rfl
  have z7 := cell_blk HT14.out.z 7 _ rfl
  have z8 := cell_blk HT14.out.z 8 _ rfl
  have fx := frz_blk HT14.out.x
  have fz := frz_blk HT14.out.z
  go_wp2_with fail
  obtain ⟨hoff, hsz9⟩ := nine_off W14 (w.heap.size + 1) (.int .i64 rid) (.int .i64 rld) (.int .i64 rep) (.int .i64 rvr) (.slice t1 rl1.length u1) (.slice t2 rl2.length u2) (.slice t3 rl3.length u3) (.slice t4 rl4.length u4) (.int .i64 rmn)
  have HT9 := hid (nine_z HT14.out rfl (.int .i64 rid) (.int .i64 rld) (.int .i64 rep) (.int .i64 rvr) (.slice t1 rl1.length u1) (.slice t2 rl2.length u2) (.slice t3 rl3.length u3) (.slice t4 rl4.length u4) (.int .i64 rmn))
  have HOFF := hid hoff
  clear hoff k0 k1 k2 k3 k4 k5 k6 k7 k8 z0 z1 z2 z3 z4 z5 z6 z7 z8 fx fz
  generalize (((((((((W14.setCell ⟨w.heap.size + 1, 0, none⟩ (.int .i64 rid)).setCell ⟨w.heap.size + 1, 1, none⟩ (.int .i64 rld)).setCell ⟨w.heap.size + 1, 2, none⟩ (.int .i64 rep)).setCell ⟨w.heap.size + 1, 3, none⟩ (.int .i64 rvr)).setCell ⟨w.heap.size + 1, 4, none⟩ (.slice t1 rl1.length u1)).setCell ⟨w.heap.size + 1, 5, none⟩ (.slice t2 rl2.length u2)).setCell ⟨w.heap.size + 1, 6, none⟩ (.slice t3 rl3.length u3)).setCell ⟨w.heap.size + 1, 7, none⟩ (.slice t4 rl4.length u4)).setCell ⟨w.heap.size + 1, 8, none⟩ (.int .i64 rmn)) = W9 at *
  have r0 := cell_blk HT9.out.z 0 _ rfl
  have r1 := cell_blk HT9.out.z 1 _ rfl
  have r2 := cell_blk HT9.out.z 2 _ rfl
  have r3 := cell_blk HT9.out.z 3 _ rfl
  have r4 := cell_blk HT9.out.z 4 _ rfl
  have r5 := cell_blk HT9.out.z 5 _ rfl
  have r6 := cell_blk HT9.out.z 6 _ rfl
  have r7 := cell_blk HT9.out.z 7 _ rfl
  have r8 := cell_blk HT9.out.z 8 _ rfl
  exact bodyPost_ret (v := .tuple #[.agg #[.int .i64 rid, .int .i64 rld, .int .i64 rep, .int .i64 rvr, .slice t1 rl1.length u1, .slice t2 rl2.length u2, .slice t3 rl3.length u3, .slice t4 rl4.length u4, .int .i64 rmn], .int .i64 re]) (by simp [results, Tryz.results184, go_sem, r0, r1, r2, r3, r4, r5, r6, r7, r8]) rfl (by rw [HR2.out]; exact ⟨_, rfl, ⟨_, _, _, _, rfl, HL.out.1.offz HOFF.out hsz9, HL.out.2.1.offz HOFF.out hsz9, HL.out.2.2.1.offz HOFF.out hsz9, HL.out.2.2.2.offz HOFF.out hsz9, HI2.out⟩, HN.out, HT9.out.b⟩)
end Go.Proofs.YtcffomhcmilcpaaGreat
