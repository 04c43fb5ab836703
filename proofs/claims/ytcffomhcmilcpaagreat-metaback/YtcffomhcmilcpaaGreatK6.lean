/- Begin. -/
import Derived.Test.YtcffomhcmilcpaaGreatK5
import Derived.Test.YtcffomhcmilcpaaGreatK0
import Derived.Maps.OwnSet
import Derived.Maps.RangeWalk
import Derived.Maps.Ext
import Derived.Deep.RegionHeld3
import Derived.Deep.AppendLies
import Derived.Shelf.SlIterI.Nil
import Derived.Shelf.SortM.Plain
import Derived.Shelf.SortM.SortNone
import Derived.Shelf.SlGeneric
import Derived.Ground.GgzProg
import Derived.Ground.SlgmProg
import Derived.Test.YtcffomhcmilcpaaGreatProg
namespace Go.Proofs.YtcffomhcmilcpaaGreat
open Go.RowKit Go.Maps
set_option linter.unusedSimpArgs false
set_option linter.unusedVariables false
set_option maxRecDepth 100000

set_option maxHeartbeats 12800000 in
theorem begin_any {w : World} {v m u : Value} {p : Pt} {t up : List Int} (h : PartM w v p) (hm : IL w m t) (hu : IL w u up) :
    Calls Tryz.prog 184 #[v, m, u] w fun e w' => Res (fun b => w.heap.size ≤ b) w (beginP p t up) e w' := by
  obtain ⟨id, ld, ep, vr, isr, reps, add, rem, mn⟩ := p
  obtain ⟨a1, c1, a2, c2, a3, c3, a4, c4, rfl, q1, q2, q3, q4, i0, i1, i2, i3, i4⟩ := h.open
  simp only at q1 q2 q3 q4 i0 i1 i2 i3 i4 ⊢
  have Q1 := hid q1
  have Q2 := hid q2
  have Q3 := hid q3
  have Q4 := hid q4
  clear h q1 q2 q3 q4
  obtain ⟨ma, mc, rfl, _⟩ := hm.shape
  obtain ⟨ua, uc, rfl, _⟩ := hu.shape
  have QM := hid hm
  have QU := hid hu
  have HT0 := hid (two_new w #[.int .i64 id, .int .i64 ld, .int .i64 ep, .int .i64 vr, .slice a1 isr.length c1, .slice a2 reps.length c2, .slice a3 add.length c3, .slice a4 rem.length c4, .int .i64 mn] #[.int .i64 0, .int .i64 0, .int .i64 0, .int .i64 0, .slice none 0 0, .slice none 0 0, .slice none 0 0, .slice none 0 0, .int .i64 0])
  have HP : Hid (∀ W, Below w.heap.size w W → PartM W (.agg #[.int .i64 id, .int .i64 ld, .int .i64 ep, .int .i64 vr, .slice a1 isr.length c1, .slice a2 reps.length c2, .slice a3 add.length c3, .slice a4 rem.length c4, .int .i64 mn]) ⟨id, ld, ep, vr, isr, reps, add, rem, mn⟩) := fun W hb => ⟨_, _, _, _, rfl, Q1.out.under hb, Q2.out.under hb, Q3.out.under hb, Q4.out.under hb, i0, i1, i2, i3, i4⟩
  have G12 : Hid (∀ W, Below w.heap.size w W → Calls Tryz.prog 96 #[.agg #[.int .i64 id, .int .i64 ld, .int .i64 ep, .int .i64 vr, .slice a1 isr.length c1, .slice a2 reps.length c2, .slice a3 add.length c3, .slice a4 rem.length c4, .int .i64 mn]] W fun e w' => e = .returned (.bool (rightB ⟨id, ld, ep, vr, isr, reps, add, rem, mn⟩)) ∧ Below W.heap.size W w') := fun W hb => right_any ⟨_, _, _, _, rfl, Q1.out.under hb, Q2.out.under hb, Q3.out.under hb, Q4.out.under hb, i0, i1, i2, i3, i4⟩
  have G15 : Hid (∀ W, Below w.heap.size w W → Calls Tryz.prog 62 #[.agg #[.int .i64 id, .int .i64 ld, .int .i64 ep, .int .i64 vr, .slice a1 isr.length c1, .slice a2 reps.length c2, .slice a3 add.length c3, .slice a4 rem.length c4, .int .i64 mn]] W fun e w' => ∃ v', e = .returned v' ∧ PartM w' v' ⟨id, ld, ep, vr, isr, reps, add, rem, mn⟩ ∧ InP (fun b => W.heap.size ≤ b) v' ⟨id, ld, ep, vr, isr, reps, add, rem, mn⟩ ∧ Below W.heap.size W w') := fun W hb => clone_any ⟨_, _, _, _, rfl, Q1.out.under hb, Q2.out.under hb, Q3.out.under hb, Q4.out.under hb, i0, i1, i2, i3, i4⟩
  have G47 : Hid (∀ W, TwoB w W #[.int .i64 id, .int .i64 ld, .int .i64 ep, .int .i64 vr, .slice a1 isr.length c1, .slice a2 reps.length c2, .slice a3 add.length c3, .slice a4 rem.length c4, .int .i64 mn] #[.int .i64 0, .int .i64 0, .int .i64 0, .int .i64 0, .slice none 0 0, .slice none 0 0, .slice none 0 0, .slice none 0 0, .int .i64 0] → Calls Tryz.prog 201 #[.slice ma t.length mc] W fun e w' => e = .returned (.bool (mayB t)) ∧ TwoB w w' #[.int .i64 id, .int .i64 ld, .int .i64 ep, .int .i64 vr, .slice a1 isr.length c1, .slice a2 reps.length c2, .slice a3 add.length c3, .slice a4 rem.length c4, .int .i64 mn] #[.int .i64 0, .int .i64 0, .int .i64 0, .int .i64 0, .slice none 0 0, .slice none 0 0, .slice none 0 0, .slice none 0 0, .int .i64 0]) := fun W hT => (mayT_any (QM.out.under hT.b)).mono fun e w' ⟨e1, e2⟩ => ⟨e1, hT.next e2⟩
  have G48 : Hid (∀ W, TwoB w W #[.int .i64 id, .int .i64 ld, .int .i64 ep, .int .i64 vr, .slice a1 isr.length c1, .slice a2 reps.length c2, .slice a3 add.length c3, .slice a4 rem.length c4, .int .i64 mn] #[.int .i64 0, .int .i64 0, .int .i64 0, .int .i64 0, .slice none 0 0, .slice none 0 0, .slice none 0 0, .slice none 0 0, .int .i64 0] → Calls Tryz.prog 202 #[.agg #[.int .i64 id, .int .i64 ld, .int .i64 ep, .int .i64 vr, .slice a1 isr.length c1, .slice a2 reps.length c2, .slice a3 add.length c3, .slice a4 rem.length c4, .int .i64 mn]] W fun e w' => e = .returned (.bool (movingB ⟨id, ld, ep, vr, isr, reps, add, rem, mn⟩)) ∧ TwoB w w' #[.int .i64 id, .int .i64 ld, .int .i64 ep, .int .i64 vr, .slice a1 isr.length c1, .slice a2 reps.length c2, .slice a3 add.length c3, .slice a4 rem.length c4, .int .i64 mn] #[.int .i64 0, .int .i64 0, .int .i64 0, .int .i64 0, .slice none 0 0, .slice none 0 0, .slice none 0 0, .slice none 0 0, .int .i64 0]) := fun W hT => (moving_any (HP.out W hT.b)).mono fun e w' ⟨e1, e2⟩ => ⟨e1, hT.next e2⟩
  have GA : Hid (∀ W, TwoB w W #[.int .i64 id, .int .i64 ld, .int .i64 ep, .int .i64 vr, .slice a1 isr.length c1, .slice a2 reps.length c2, .slice a3 add.length c3, .slice a4 rem.length c4, .int .i64 mn] #[.int .i64 0, .int .i64 0, .int .i64 0, .int .i64 0, .slice none 0 0, .slice none 0 0, .slice none 0 0, .slice none 0 0, .int .i64 0] → Calls Tryz.prog 181 #[.slice ma t.length mc, .func (.func 158) #[] #[], .slice a2 reps.length c2] W fun e w' => ∃ aa ac, e = .returned (.slice aa (outL t reps).length ac) ∧ IL w' (.slice aa (outL t reps).length ac) (outL t reps) ∧ In (fun b => w.heap.size + 2 ≤ b) (.slice aa (outL t reps).length ac) (outL t reps) ∧ TwoB w w' #[.int .i64 id, .int .i64 ld, .int .i64 ep, .int .i64 vr, .slice a1 isr.length c1, .slice a2 reps.length c2, .slice a3 add.length c3, .slice a4 rem.length c4, .int .i64 mn] #[.int .i64 0, .int .i64 0, .int .i64 0, .int .i64 0, .slice none 0 0, .slice none 0 0, .slice none 0 0, .slice none 0 0, .int .i64 0]) := fun W hT => (those50_any (QM.out.under hT.b) (Q2.out.under hT.b)).mono fun e w' ⟨v', e1, e2, e3, e4⟩ => by obtain ⟨aa, ac, rfl, _⟩ := e2.shape; exact ⟨aa, ac, e1, e2, e3.mono fun b hb => Nat.le_trans hT.s hb, hT.next e4⟩
  have G51 : Hid (∀ W aa ac, IL W (.slice aa (outL t reps).length ac) (outL t reps) → Below w.heap.size w W → Calls Tryz.prog 169 #[.slice aa (outL t reps).length ac, .func (.func 138) #[] #[], .slice ua up.length uc] W fun e w' => e = .returned (.bool ((outL t reps).all (hasB up))) ∧ W = w') := fun W aa ac h1 hb => areAll39_any h1 (QU.out.under hb)
  have G44 : Hid (∀ W, Below w.heap.size w W → Calls Tryz.prog 203 #[.slice a2 reps.length c2, .slice ma t.length mc] W fun e w' => e = .returned (.bool (decide (reps = t))) ∧ Below W.heap.size W w') := fun W hb => equal_any (Q2.out.under hb) (QM.out.under hb)
  have GR : Hid (∀ W, Below w.heap.size w W → Calls Tryz.prog 181 #[.slice a2 reps.length c2, .func (.func 158) #[] #[], .slice ma t.length mc] W fun e w' => ∃ v', e = .returned v' ∧ IL w' v' (outL reps t) ∧ In (fun b => W.heap.size ≤ b) v' (outL reps t) ∧ Below W.heap.size W w') := fun W hb => those50_any (Q2.out.under hb) (QM.out.under hb)
  have HE : Hid (beginP ⟨id, ld, ep, vr, isr, reps, add, rem, mn⟩ t up = if !rightB ⟨id, ld, ep, vr, isr, reps, add, rem, mn⟩ || !mayB t then (Pt.zero, 1) else if movingB ⟨id, ld, ep, vr, isr, reps, add, rem, mn⟩ then (Pt.zero, 19) else if !(outL t reps).all (hasB up) then (Pt.zero, 8) else if reps = t then (⟨id, ld, ep, vr, isr, reps, add, rem, mn⟩, 0) else changedP ⟨id, ld, ep, vr, isr, t ++ outL reps t, outL t reps, outL reps t, mn⟩ ld) := rfl
  have HBD : Hid (rightB ⟨id, ld, ep, vr, isr, reps, add, rem, mn⟩ = true → ((1 ≤ ep ∧ ep ≤ 1000000000) ∧ (1 ≤ vr ∧ vr ≤ 1000000000)) ∧ (outL reps t).length ≤ 7) := fun e => ⟨⟨(rightB_iff.1 e).epoch, (rightB_iff.1 e).ver⟩, Nat.le_trans (len_outL _ _) (ids_len (rightB_iff.1 e).reps)⟩
  have HMB : Hid (mayB t = true → 1 ≤ t.length ∧ t.length ≤ 5) := fun e => by
    have := (Bool.and_eq_true_iff.1 e).1
    have := upB_iff.1 this
    omega
  have HI : Hid (I64 id ∧ I64 ld ∧ I64 ep ∧ I64 vr ∧ I64 mn) := ⟨i0, i1, i2, i3, i4⟩
  have QM2 := hid QM.out.shape
  generalize beginP ⟨id, ld, ep, vr, isr, reps, add, rem, mn⟩ t up = r at *
  generalize hA : (outL t reps).all (hasB up) = B4 at *
  generalize outL t reps = A at *
  generalize outL reps t = R at *
  generalize hCC : t ++ R = C at *
  have HCC := hid hCC
  clear hCC
  generalize rightB ⟨id, ld, ep, vr, isr, reps, add, rem, mn⟩ = B1 at *
  generalize mayB t = B2 at *
  generalize movingB ⟨id, ld, ep, vr, isr, reps, add, rem, mn⟩ = B3 at *
  generalize hD : decide (reps = t) = B5 at *
  have HD := hid hD
  clear hA hD HP QU hm hu i0 i1 i2 i3 i4 Q1 Q2 Q3 Q4
  go_enter Tryz.func184, Tryz.ntmps184
  go_wp2_with fail
  generalize (w.alloc (.cells #[.int .i64 id, .int .i64 ld, .int .i64 ep, .int .i64 vr, .slice a1 isr.length c1, .slice a2 reps.length c2, .slice a3 add.length c3, .slice a4 rem.length c4, .int .i64 mn] 54)).alloc (.cells #[.int .i64 0, .int .i64 0, .int .i64 0, .int .i64 0, .slice none 0 0, .slice none 0 0, .slice none 0 0, .slice none 0 0, .int .i64 0] 54) = W0 at *
  refine (G12.out _ HT0.out.b).mono ?_
  rintro e W1 ⟨rfl, hb⟩
  have HT1 := hid (HT0.out.next hb)
  clear hb
  have k0 := cell_blk HT1.out.x 0 _ rfl
  have k1 := cell_blk HT1.out.x 1 _ rfl
  have k2 := cell_blk HT1.out.x 2 _ rfl
  have k3 := cell_blk HT1.out.x 3 _ rfl
  have k4 := cell_blk HT1.out.x 4 _ rfl
  have k5 := cell_blk HT1.out.x 5 _ rfl
  have k6 := cell_blk HT1.out.x 6 _ rfl
  have k7 := cell_blk HT1.out.x 7 _ rfl
  have k8 := cell_blk HT1.out.x 8 _ rfl
  have z0 := cell_blk HT1.out.z 0 _ rfl
  have z1 := cell_blk HT1.out.z 1 _ rfl
  have z2 := cell_blk HT1.out.z 2 _ rfl
  have z3 := cell_blk HT1.out.z 3 _ rfl
  have z4 := cell_blk HT1.out.z 4 _ rfl
  have z5 := cell_blk HT1.out.z 5 _ rfl
  have z6 := cell_blk HT1.out.z 6 _ rfl
  have z7 := cell_blk HT1.out.z 7 _ rfl
  have z8 := cell_blk HT1.out.z 8 _ rfl
  have fx := frz_blk HT1.out.x
  have fz := frz_blk HT1.out.z
  cases B1
  · have HR : Hid (r = (Pt.zero, 1)) := by show _ = _; rw [HE.out]; simp
    go_wp2_with fail
    obtain ⟨hoff, hsz9⟩ := nine_off W1 (w.heap.size + 1) (.int .i64 0) (.int .i64 0) (.int .i64 0) (.int .i64 0) (.slice none 0 0) (.slice none 0 0) (.slice none 0 0) (.slice none 0 0) (.int .i64 0)
    have HT9 := hid (nine_z HT1.out rfl (.int .i64 0) (.int .i64 0) (.int .i64 0) (.int .i64 0) (.slice none 0 0) (.slice none 0 0) (.slice none 0 0) (.slice none 0 0) (.int .i64 0))
    have HOFF := hid hoff
    clear hoff k0 k1 k2 k3 k4 k5 k6 k7 k8 z0 z1 z2 z3 z4 z5 z6 z7 z8 fx fz
    generalize (((((((((W1.setCell ⟨w.heap.size + 1, 0, none⟩ (.int .i64 0)).setCell ⟨w.heap.size + 1, 1, none⟩ (.int .i64 0)).setCell ⟨w.heap.size + 1, 2, none⟩ (.int .i64 0)).setCell ⟨w.heap.size + 1, 3, none⟩ (.int .i64 0)).setCell ⟨w.heap.size + 1, 4, none⟩ (.slice none 0 0)).setCell ⟨w.heap.size + 1, 5, none⟩ (.slice none 0 0)).setCell ⟨w.heap.size + 1, 6, none⟩ (.slice none 0 0)).setCell ⟨w.heap.size + 1, 7, none⟩ (.slice none 0 0)).setCell ⟨w.heap.size + 1, 8, none⟩ (.int .i64 0)) = W9 at *
    have r0 := cell_blk HT9.out.z 0 _ rfl
    have r1 := cell_blk HT9.out.z 1 _ rfl
    have r2 := cell_blk HT9.out.z 2 _ rfl
    have r3 := cell_blk HT9.out.z 3 _ rfl
    have r4 := cell_blk HT9.out.z 4 _ rfl
    have r5 := cell_blk HT9.out.z 5 _ rfl
    have r6 := cell_blk HT9.out.z 6 _ rfl
    have r7 := cell_blk HT9.out.z 7 _ rfl
    have r8 := cell_blk HT9.out.z 8 _ rfl
    exact bodyPost_ret (v := .tuple #[.agg #[.int .i64 0, .int .i64 0, .int .i64 0, .int .i64 0, .slice none 0 0, .slice none 0 0, .slice none 0 0, .slice none 0 0, .int .i64 0], .int .i64 1]) (by simp [results, Tryz.results184, go_sem, r0, r1, r2, r3, r4, r5, r6, r7, r8]) rfl (by rw [HR.out]; exact res_err _ HT9.out.b)
  obtain ⟨⟨hep, hvr⟩, hR7⟩ := HBD.out rfl
  go_wp2_with fail
  refine (G47.out _ HT1.out).mono ?_
  rintro e W2 ⟨rfl, t2⟩
  have HT2 := hid t2
  clear t2 k0 k1 k2 k3 k4 k5 k6 k7 k8 z0 z1 z2 z3 z4 z5 z6 z7 z8 fx fz
  have k0 := cell_blk HT2.out.x 0 _ rfl
  have k1 := cell_blk HT2.out.x 1 _ rfl
  have k2 := cell_blk HT2.out.x 2 _ rfl
  have k3 := cell_blk HT2.out.x 3 _ rfl
  have k4 := cell_blk HT2.out.x 4 _ rfl
  have k5 := cell_blk HT2.out.x 5 _ rfl
  have k6 := cell_blk HT2.out.x 6 _ rfl
  have k7 := cell_blk HT2.out.x 7 _ rfl
  have k8 := cell_blk HT2.out.x 8 _ rfl
  have z0 := cell_blk HT2.out.z 0 _ rfl
  have z1 := cell_blk HT2.out.z 1 _ rfl
  have z2 := cell_blk HT2.out.z 2 _ rfl
  have z3 := cell_blk HT2.out.z 3 _ rfl
  have z4 := cell_blk HT2.out.z 4 _ rfl
  have z5 := cell_blk HT2.out.z 5 _ rfl
  have z6 := cell_blk HT2.out.z 6 _ rfl
  have z7 := cell_blk HT2.out.z 7 _ rfl
  have z8 := cell_blk HT2.out.z 8 _ rfl
  have fx := frz_blk HT2.out.x
  have fz := frz_blk HT2.out.z
  cases B2
  · have HR : Hid (r = (Pt.zero, 1)) := by show _ = _; rw [HE.out]; simp
    go_wp2_with fail
    obtain ⟨hoff, hsz9⟩ := nine_off W2 (w.heap.size + 1) (.int .i64 0) (.int .i64 0) (.int .i64 0) (.int .i64 0) (.slice none 0 0) (.slice none 0 0) (.slice none 0 0) (.slice none 0 0) (.int .i64 0)
    have HT9 := hid (nine_z HT2.out rfl (.int .i64 0) (.int .i64 0) (.int .i64 0) (.int .i64 0) (.slice none 0 0) (.slice none 0 0) (.slice none 0 0) (.slice none 0 0) (.int .i64 0))
    have HOFF := hid hoff
    clear hoff k0 k1 k2 k3 k4 k5 k6 k7 k8 z0 z1 z2 z3 z4 z5 z6 z7 z8 fx fz
    generalize (((((((((W2.setCell ⟨w.heap.size + 1, 0, none⟩ (.int .i64 0)).setCell ⟨w.heap.size + 1, 1, none⟩ (.int .i64 0)).setCell ⟨w.heap.size + 1, 2, none⟩ (.int .i64 0)).setCell ⟨w.heap.size + 1, 3, none⟩ (.int .i64 0)).setCell ⟨w.heap.size + 1, 4, none⟩ (.slice none 0 0)).setCell ⟨w.heap.size + 1, 5, none⟩ (.slice none 0 0)).setCell ⟨w.heap.size + 1, 6, none⟩ (.slice none 0 0)).setCell ⟨w.heap.size + 1, 7, none⟩ (.slice none 0 0)).setCell ⟨w.heap.size + 1, 8, none⟩ (.int .i64 0)) = W9 at *
    have r0 := cell_blk HT9.out.z 0 _ rfl
    have r1 := cell_blk HT9.out.z 1 _ rfl
    have r2 := cell_blk HT9.out.z 2 _ rfl
    have r3 := cell_blk HT9.out.z 3 _ rfl
    have r4 := cell_blk HT9.out.z 4 _ rfl
    have r5 := cell_blk HT9.out.z 5 _ rfl
    have r6 := cell_blk HT9.out.z 6 _ rfl
    have r7 := cell_blk HT9.out.z 7 _ rfl
    have r8 := cell_blk HT9.out.z 8 _ rfl
    exact bodyPost_ret (v := .tuple #[.agg #[.int .i64 0, .int .i64 0, .int .i64 0, .int .i64 0, .slice none 0 0, .slice none 0 0, .slice none 0 0, .slice none 0 0, .int .i64 0], .int .i64 1]) (by simp [results, Tryz.results184, go_sem, r0, r1, r2, r3, r4, r5, r6, r7, r8]) rfl (by rw [HR.out]; exact res_err _ HT9.out.b)
  obtain ⟨ht1, ht5⟩ := HMB.out rfl
  go_wp2_with fail
  refine (G48.out _ HT2.out).mono ?_
  rintro e W3 ⟨rfl, t2⟩
  have HT3 := hid t2
  clear t2 k0 k1 k2 k3 k4 k5 k6 k7 k8 z0 z1 z2 z3 z4 z5 z6 z7 z8 fx fz
  have k0 := cell_blk HT3.out.x 0 _ rfl
  have k1 := cell_blk HT3.out.x 1 _ rfl
  have k2 := cell_blk HT3.out.x 2 _ rfl
  have k3 := cell_blk HT3.out.x 3 _ rfl
  have k4 := cell_blk HT3.out.x 4 _ rfl
  have k5 := cell_blk HT3.out.x 5 _ rfl
  have k6 := cell_blk HT3.out.x 6 _ rfl
  have k7 := cell_blk HT3.out.x 7 _ rfl
  have k8 := cell_blk HT3.out.x 8 _ rfl
  have z0 := cell_blk HT3.out.z 0 _ rfl
  have z1 := cell_blk HT3.out.z 1 _ rfl
  have z2 := cell_blk HT3.out.z 2 _ rfl
  have z3 := cell_blk HT3.out.z 3 _ rfl
  have z4 := cell_blk HT3.out.z 4 _ rfl
  have z5 := cell_blk HT3.out.z 5 _ rfl
  have z6 := cell_blk HT3.out.z 6 _ rfl
  have z7 := cell_blk HT3.out.z 7 _ rfl
  have z8 := cell_blk HT3.out.z 8 _ rfl
  have fx := frz_blk HT3.out.x
  have fz := frz_blk HT3.out.z
  cases B3
  case true =>
    have HR : Hid (r = (Pt.zero, 19)) := by show _ = _; rw [HE.out]; simp
    go_wp2_with fail
    obtain ⟨hoff, hsz9⟩ := nine_off W3 (w.heap.size + 1) (.int .i64 0) (.int .i64 0) (.int .i64 0) (.int .i64 0) (.slice none 0 0) (.slice none 0 0) (.slice none 0 0) (.slice none 0 0) (.int .i64 0)
    have HT9 := hid (nine_z HT3.out rfl (.int .i64 0) (.int .i64 0) (.int .i64 0) (.int .i64 0) (.slice none 0 0) (.slice none 0 0) (.slice none 0 0) (.slice none 0 0) (.int .i64 0))
    have HOFF := hid hoff
    clear hoff k0 k1 k2 k3 k4 k5 k6 k7 k8 z0 z1 z2 z3 z4 z5 z6 z7 z8 fx fz
    generalize (((((((((W3.setCell ⟨w.heap.size + 1, 0, none⟩ (.int .i64 0)).setCell ⟨w.heap.size + 1, 1, none⟩ (.int .i64 0)).setCell ⟨w.heap.size + 1, 2, none⟩ (.int .i64 0)).setCell ⟨w.heap.size + 1, 3, none⟩ (.int .i64 0)).setCell ⟨w.heap.size + 1, 4, none⟩ (.slice none 0 0)).setCell ⟨w.heap.size + 1, 5, none⟩ (.slice none 0 0)).setCell ⟨w.heap.size + 1, 6, none⟩ (.slice none 0 0)).setCell ⟨w.heap.size + 1, 7, none⟩ (.slice none 0 0)).setCell ⟨w.heap.size + 1, 8, none⟩ (.int .i64 0)) = W9 at *
    have r0 := cell_blk HT9.out.z 0 _ rfl
    have r1 := cell_blk HT9.out.z 1 _ rfl
    have r2 := cell_blk HT9.out.z 2 _ rfl
    have r3 := cell_blk HT9.out.z 3 _ rfl
    have r4 := cell_blk HT9.out.z 4 _ rfl
    have r5 := cell_blk HT9.out.z 5 _ rfl
    have r6 := cell_blk HT9.out.z 6 _ rfl
    have r7 := cell_blk HT9.out.z 7 _ rfl
    have r8 := cell_blk HT9.out.z 8 _ rfl
    exact bodyPost_ret (v := .tuple #[.agg #[.int .i64 0, .int .i64 0, .int .i64 0, .int .i64 0, .slice none 0 0, .slice none 0 0, .slice none 0 0, .slice none 0 0, .int .i64 0], .int .i64 19]) (by simp [results, Tryz.results184, go_sem, r0, r1, r2, r3, r4, r5, r6, r7, r8]) rfl (by rw [HR.out]; exact res_err _ HT9.out.b)
  go_wp2_with fail
  refine (GA.out _ HT3.out).mono ?_
  rintro e W4 ⟨aa, ac, rfl, ia, na, t2⟩
  have HT4 := hid t2
  have IA4 := hid ia
  have NA := hid na
  clear t2 ia na k0 k1 k2 k3 k4 k5 k6 k7 k8 z0 z1 z2 z3 z4 z5 z6 z7 z8 fx fz
  have k0 := cell_blk HT4.out.x 0 _ rfl
  have k1 := cell_blk HT4.out.x 1 _ rfl
  have k2 := cell_blk HT4.out.x 2 _ rfl
  have k3 := cell_blk HT4.out.x 3 _ rfl
  have k4 := cell_blk HT4.out.x 4 _ rfl
  have k5 := cell_blk HT4.out.x 5 _ rfl
  have k6 := cell_blk HT4.out.x 6 _ rfl
  have k7 := cell_blk HT4.out.x 7 _ rfl
  have k8 := cell_blk HT4.out.x 8 _ rfl
  have z0 := cell_blk HT4.out.z 0 _ rfl
  have z1 := cell_blk HT4.out.z 1 _ rfl
  have z2 := cell_blk HT4.out.z 2 _ rfl
  have z3 := cell_blk HT4.out.z 3 _ rfl
  have z4 := cell_blk HT4.out.z 4 _ rfl
  have z5 := cell_blk HT4.out.z 5 _ rfl
  have z6 := cell_blk HT4.out.z 6 _ rfl
  have z7 := cell_blk HT4.out.z 7 _ rfl
  have z8 := cell_blk HT4.out.z 8 _ rfl
  have fx := frz_blk HT4.out.x
  have fz := frz_blk HT4.out.z
  go_wp2_with fail
  refine (G51.out _ _ _ IA4.out HT4.out.b).mono ?_
  rintro e W5 ⟨rfl, rfl⟩
  cases B4
  · have HR : Hid (r = (Pt.zero, 8)) := by show _ = _; rw [HE.out]; simp
    go_wp2_with fail
    obtain ⟨hoff, hsz9⟩ := nine_off W4 (w.heap.size + 1) (.int .i64 0) (.int .i64 0) (.int .i64 0) (.int .i64 0) (.slice none 0 0) (.slice none 0 0) (.slice none 0 0) (.slice none 0 0) (.int .i64 0)
    have HT9 := hid (nine_z HT4.out rfl (.int .i64 0) (.int .i64 0) (.int .i64 0) (.int .i64 0) (.slice none 0 0) (.slice none 0 0) (.slice none 0 0) (.slice none 0 0) (.int .i64 0))
    have HOFF := hid hoff
    clear hoff k0 k1 k2 k3 k4 k5 k6 k7 k8 z0 z1 z2 z3 z4 z5 z6 z7 z8 fx fz
    generalize (((((((((W4.setCell ⟨w.heap.size + 1, 0, none⟩ (.int .i64 0)).setCell ⟨w.heap.size + 1, 1, none⟩ (.int .i64 0)).setCell ⟨w.heap.size + 1, 2, none⟩ (.int .i64 0)).setCell ⟨w.heap.size + 1, 3, none⟩ (.int .i64 0)).setCell ⟨w.heap.size + 1, 4, none⟩ (.slice none 0 0)).setCell ⟨w.heap.size + 1, 5, none⟩ (.slice none 0 0)).setCell ⟨w.heap.size + 1, 6, none⟩ (.slice none 0 0)).setCell ⟨w.heap.size + 1, 7, none⟩ (.slice none 0 0)).setCell ⟨w.heap.size + 1, 8, none⟩ (.int .i64 0)) = W9 at *
    have r0 := cell_blk HT9.out.z 0 _ rfl
    have r1 := cell_blk HT9.out.z 1 _ rfl
    have r2 := cell_blk HT9.out.z 2 _ rfl
    have r3 := cell_blk HT9.out.z 3 _ rfl
    have r4 := cell_blk HT9.out.z 4 _ rfl
    have r5 := cell_blk HT9.out.z 5 _ rfl
    have r6 := cell_blk HT9.out.z 6 _ rfl
    have r7 := cell_blk HT9.out.z 7 _ rfl
    have r8 := cell_blk HT9.out.z 8 _ rfl
    exact bodyPost_ret (v := .tuple #[.agg #[.int .i64 0, .int .i64 0, .int .i64 0, .int .i64 0, .slice none 0 0, .slice none 0 0, .slice none 0 0, .slice none 0 0, .int .i64 0], .int .i64 8]) (by simp [results, Tryz.results184, go_sem, r0, r1, r2, r3, r4, r5, r6, r7, r8]) rfl (by rw [HR.out]; exact res_err _ HT9.out.b)
  have HE2 : Hid (r = if reps = t then (⟨id, ld, ep, vr, isr, reps, add, rem, mn⟩, 0) else changedP ⟨id, ld, ep, vr, isr, C, A, R, mn⟩ ld) := by show _ = _; rw [HE.out]; simp
  clear HE
  go_wp2_with fail
  refine (G15.out _ HT4.out.b).mono ?_
  rintro e W5 ⟨v', rfl, h1, h2, hb⟩
  have h2' := h2.mono (Y := fun b => w.heap.size + 2 ≤ b) fun b hx => Nat.le_trans HT4.out.s hx
  obtain ⟨x1, y1, x2, y2, x3, y3, x4, y4, rfl, q1, q2, q3, q4, ii⟩ := h1.open
  obtain ⟨n1, n2, n3, n4⟩ := h2' _ _ _ _ _ _ _ _ _ rfl
  simp only at q1 q2 q3 q4 n1 n2 n3 n4 ii
  have HT5 := hid (HT4.out.next hb)
  have H3 := hid (three_new HT5.out #[.int .i64 id, .int .i64 ld, .int .i64 ep, .int .i64 vr, .slice x1 isr.length y1, .slice x2 reps.length y2, .slice x3 add.length y3, .slice x4 rem.length y4, .int .i64 mn])
  have P1 := hid (ln_old q1 n1 #[.int .i64 id, .int .i64 ld, .int .i64 ep, .int .i64 vr, .slice x1 isr.length y1, .slice x2 reps.length y2, .slice x3 add.length y3, .slice x4 rem.length y4, .int .i64 mn])
  have P2 := hid (ln_old q2 n2 #[.int .i64 id, .int .i64 ld, .int .i64 ep, .int .i64 vr, .slice x1 isr.length y1, .slice x2 reps.length y2, .slice x3 add.length y3, .slice x4 rem.length y4, .int .i64 mn])
  have P3 := hid (ln_old q3 n3 #[.int .i64 id, .int .i64 ld, .int .i64 ep, .int .i64 vr, .slice x1 isr.length y1, .slice x2 reps.length y2, .slice x3 add.length y3, .slice x4 rem.length y4, .int .i64 mn])
  have P4 := hid (ln_old q4 n4 #[.int .i64 id, .int .i64 ld, .int .i64 ep, .int .i64 vr, .slice x1 isr.length y1, .slice x2 reps.length y2, .slice x3 add.length y3, .slice x4 rem.length y4, .int .i64 mn])
  have PA := hid (ln_old (IA4.out.under hb) NA.out #[.int .i64 id, .int .i64 ld, .int .i64 ep, .int .i64 vr, .slice x1 isr.length y1, .slice x2 reps.length y2, .slice x3 add.length y3, .slice x4 rem.length y4, .int .i64 mn])
  have hs4 := HT5.out.s
  clear q1 q2 q3 q4 n1 n2 n3 n4 ii h1 h2 h2' hb k0 k1 k2 k3 k4 k5 k6 k7 k8 z0 z1 z2 z3 z4 z5 z6 z7 z8 fx fz
  have k0 := cell_blk HT5.out.x 0 _ rfl
  have k1 := cell_blk HT5.out.x 1 _ rfl
  have k2 := cell_blk HT5.out.x 2 _ rfl
  have k3 := cell_blk HT5.out.x 3 _ rfl
  have k4 := cell_blk HT5.out.x 4 _ rfl
  have k5 := cell_blk HT5.out.x 5 _ rfl
  have k6 := cell_blk HT5.out.x 6 _ rfl
  have k7 := cell_blk HT5.out.x 7 _ rfl
  have k8 := cell_blk HT5.out.x 8 _ rfl
  have z0 := cell_blk HT5.out.z 0 _ rfl
  have z1 := cell_blk HT5.out.z 1 _ rfl
  have z2 := cell_blk HT5.out.z 2 _ rfl
  have z3 := cell_blk HT5.out.z 3 _ rfl
  have z4 := cell_blk HT5.out.z 4 _ rfl
  have z5 := cell_blk HT5.out.z 5 _ rfl
  have z6 := cell_blk HT5.out.z 6 _ rfl
  have z7 := cell_blk HT5.out.z 7 _ rfl
  have z8 := cell_blk HT5.out.z 8 _ rfl
  have fx := frz_blk HT5.out.x
  have fz := frz_blk HT5.out.z
  have hne : w.heap.size < W5.heap.size := by omega
  go_wp2_with fail
  clear k0 k1 k2 k3 k4 k5 k6 k7 k8 z0 z1 z2 z3 z4 z5 z6 z7 z8 fx fz
  generalize W5.alloc (.cells #[.int .i64 id, .int .i64 ld, .int .i64 ep, .int .i64 vr, .slice x1 isr.length y1, .slice x2 reps.length y2, .slice x3 add.length y3, .slice x4 rem.length y4, .int .i64 mn] 54) = W6 at *
  generalize W5.heap.size = q at *
  refine (G44.out _ H3.out.t.b).mono ?_
  rintro e W7 ⟨rfl, hb⟩
  have H7 := hid (H3.out.next hb)
  have HT7 := hid H7.out.t
  have M1 := hid (P1.out.under hb)
  have M2 := hid (P2.out.under hb)
  have M3 := hid (P3.out.under hb)
  have M4 := hid (P4.out.under hb)
  have MA := hid (PA.out.under hb)
  clear hb P1 P2 P3 P4 PA
  have n0 := cell_blk H7.out.n 0 _ rfl
  have n1 := cell_blk H7.out.n 1 _ rfl
  have n2 := cell_blk H7.out.n 2 _ rfl
  have n3 := cell_blk H7.out.n 3 _ rfl
  have n4 := cell_blk H7.out.n 4 _ rfl
  have n5 := cell_blk H7.out.n 5 _ rfl
  have n6 := cell_blk H7.out.n 6 _ rfl
  have n7 := cell_blk H7.out.n 7 _ rfl
  have n8 := cell_blk H7.out.n 8 _ rfl
  have fn := frz_blk H7.out.n
  have k0 := cell_blk HT7.out.x 0 _ rfl
  have k1 := cell_blk HT7.out.x 1 _ rfl
  have k2 := cell_blk HT7.out.x 2 _ rfl
  have k3 := cell_blk HT7.out.x 3 _ rfl
  have k4 := cell_blk HT7.out.x 4 _ rfl
  have k5 := cell_blk HT7.out.x 5 _ rfl
  have k6 := cell_blk HT7.out.x 6 _ rfl
  have k7 := cell_blk HT7.out.x 7 _ rfl
  have k8 := cell_blk HT7.out.x 8 _ rfl
  have z0 := cell_blk HT7.out.z 0 _ rfl
  have z1 := cell_blk HT7.out.z 1 _ rfl
  have z2 := cell_blk HT7.out.z 2 _ rfl
  have z3 := cell_blk HT7.out.z 3 _ rfl
  have z4 := cell_blk HT7.out.z 4 _ rfl
  have z5 := cell_blk HT7.out.z 5 _ rfl
  have z6 := cell_blk HT7.out.z 6 _ rfl
  have z7 := cell_blk HT7.out.z 7 _ rfl
  have z8 := cell_blk HT7.out.z 8 _ rfl
  have fx := frz_blk HT7.out.x
  have fz := frz_blk HT7.out.z
  cases B5
  case true =>
    have HR : Hid (r = (⟨id, ld, ep, vr, isr, reps, add, rem, mn⟩, 0)) := by show _ = _; rw [HE2.out, if_pos (of_decide_eq_true HD.out)]
    go_wp2_with fail
    obtain ⟨hoff, hsz9⟩ := nine_off W7 (w.heap.size + 1) (.int .i64 id) (.int .i64 ld) (.int .i64 ep) (.int .i64 vr) (.slice x1 isr.length y1) (.slice x2 reps.length y2) (.slice x3 add.length y3) (.slice x4 rem.length y4) (.int .i64 mn)
    have HT9 := hid (nine_z HT7.out rfl (.int .i64 id) (.int .i64 ld) (.int .i64 ep) (.int .i64 vr) (.slice x1 isr.length y1) (.slice x2 reps.length y2) (.slice x3 add.length y3) (.slice x4 rem.length y4) (.int .i64 mn))
    have HOFF := hid hoff
    clear hoff k0 k1 k2 k3 k4 k5 k6 k7 k8 z0 z1 z2 z3 z4 z5 z6 z7 z8 fx fz n0 n1 n2 n3 n4 n5 n6 n7 n8 fn
    generalize (((((((((W7.setCell ⟨w.heap.size + 1, 0, none⟩ (.int .i64 id)).setCell ⟨w.heap.size + 1, 1, none⟩ (.int .i64 ld)).setCell ⟨w.heap.size + 1, 2, none⟩ (.int .i64 ep)).setCell ⟨w.heap.size + 1, 3, none⟩ (.int .i64 vr)).setCell ⟨w.heap.size + 1, 4, none⟩ (.slice x1 isr.length y1)).setCell ⟨w.heap.size + 1, 5, none⟩ (.slice x2 reps.length y2)).setCell ⟨w.heap.size + 1, 6, none⟩ (.slice x3 add.length y3)).setCell ⟨w.heap.size + 1, 7, none⟩ (.slice x4 rem.length y4)).setCell ⟨w.heap.size + 1, 8, none⟩ (.int .i64 mn)) = W9 at *
    have r0 := cell_blk HT9.out.z 0 _ rfl
    have r1 := cell_blk HT9.out.z 1 _ rfl
    have r2 := cell_blk HT9.out.z 2 _ rfl
    have r3 := cell_blk HT9.out.z 3 _ rfl
    have r4 := cell_blk HT9.out.z 4 _ rfl
    have r5 := cell_blk HT9.out.z 5 _ rfl
    have r6 := cell_blk HT9.out.z 6 _ rfl
    have r7 := cell_blk HT9.out.z 7 _ rfl
    have r8 := cell_blk HT9.out.z 8 _ rfl
    exact bodyPost_ret (v := .tuple #[.agg #[.int .i64 id, .int .i64 ld, .int .i64 ep, .int .i64 vr, .slice x1 isr.length y1, .slice x2 reps.length y2, .slice x3 add.length y3, .slice x4 rem.length y4, .int .i64 mn], .int .i64 0]) (by simp [results, Tryz.results184, go_sem, r0, r1, r2, r3, r4, r5, r6, r7, r8]) rfl (by rw [HR.out]; exact ⟨_, rfl, ⟨_, _, _, _, rfl, M1.out.ia.offz HOFF.out hsz9, M2.out.ia.offz HOFF.out hsz9, M3.out.ia.offz HOFF.out hsz9, M4.out.ia.offz HOFF.out hsz9, HI.out⟩, (inP_of (M1.out.in.mono fun b hb => by omega) (M2.out.in.mono fun b hb => by omega) (M3.out.in.mono fun b hb => by omega) (M4.out.in.mono fun b hb => by omega)), HT9.out.b⟩)
  have HR : Hid (r = changedP ⟨id, ld, ep, vr, isr, C, A, R, mn⟩ ld) := by show _ = _; rw [HE2.out, if_neg (of_decide_eq_false HD.out)]
  clear HE2 HD
  have hnq : ¬ q = w.heap.size := by have := H7.out.lo; omega
  have hnq2 : ¬ w.heap.size = q := by have := H7.out.lo; omega
  go_wp2_with fail
  have H8 : Hid (ThreeB w (W7.setCell ⟨q, 6, none⟩ (.slice aa A.length ac)) q #[.int .i64 id, .int .i64 ld, .int .i64 ep, .int .i64 vr, .slice a1 isr.length c1, .slice a2 reps.length c2, .slice a3 add.length c3, .slice a4 rem.length c4, .int .i64 mn] #[.int .i64 0, .int .i64 0, .int .i64 0, .int .i64 0, .slice none 0 0, .slice none 0 0, .slice none 0 0, .slice none 0 0, .int .i64 0] #[.int .i64 id, .int .i64 ld, .int .i64 ep, .int .i64 vr, .slice x1 isr.length y1, .slice x2 reps.length y2, .slice aa A.length ac, .slice x4 rem.length y4, .int .i64 mn]) := H7.out.setn 6 _
  have P1 := hid (M1.out.setn 6 (.slice aa A.length ac))
  have PA := hid (MA.out.setn 6 (.slice aa A.length ac))
  clear k0 k1 k2 k3 k4 k5 k6 k7 k8 z0 z1 z2 z3 z4 z5 z6 z7 z8 fx fz n0 n1 n2 n3 n4 n5 n6 n7 n8 fn M1 M2 M3 M4 MA H7 HT7
  generalize W7.setCell ⟨q, 6, none⟩ (.slice aa A.length ac) = W8 at *
  refine (GR.out _ H8.out.t.b).mono ?_
  rintro e W9 ⟨v', rfl, h1, h2, hb⟩
  obtain ⟨ra, rc, rfl, _⟩ := h1.shape
  have H9 := hid (H8.out.next hb)
  have MR := hid (ln_new (w := w) h1 h2 H8.out.hi H8.out.lo)
  have M1 := hid (P1.out.under hb)
  have MA := hid (PA.out.under hb)
  clear h1 h2 hb P1 PA H8
  have n0 := cell_blk H9.out.n 0 _ rfl
  have n1 := cell_blk H9.out.n 1 _ rfl
  have n2 := cell_blk H9.out.n 2 _ rfl
  have n3 := cell_blk H9.out.n 3 _ rfl
  have n4 := cell_blk H9.out.n 4 _ rfl
  have n5 := cell_blk H9.out.n 5 _ rfl
  have n6 := cell_blk H9.out.n 6 _ rfl
  have n7 := cell_blk H9.out.n 7 _ rfl
  have n8 := cell_blk H9.out.n 8 _ rfl
  have fn := frz_blk H9.out.n
  go_upto_region 13 with fail
  have H10 : Hid (ThreeB w (W9.setCell ⟨q, 7, none⟩ (.slice ra R.length rc)) q #[.int .i64 id, .int .i64 ld, .int .i64 ep, .int .i64 vr, .slice a1 isr.length c1, .slice a2 reps.length c2, .slice a3 add.length c3, .slice a4 rem.length c4, .int .i64 mn] #[.int .i64 0, .int .i64 0, .int .i64 0, .int .i64 0, .slice none 0 0, .slice none 0 0, .slice none 0 0, .slice none 0 0, .int .i64 0] #[.int .i64 id, .int .i64 ld, .int .i64 ep, .int .i64 vr, .slice x1 isr.length y1, .slice x2 reps.length y2, .slice aa A.length ac, .slice ra R.length rc, .int .i64 mn]) := H9.out.setn 7 _
  have P1 := hid (M1.out.setn 7 (.slice ra R.length rc))
  have PA := hid (MA.out.setn 7 (.slice ra R.length rc))
  have PR := hid (MR.out.setn 7 (.slice ra R.length rc))
  clear n0 n1 n2 n3 n4 n5 n6 n7 n8 fn M1 MA MR H9
  generalize W9.setCell ⟨q, 7, none⟩ (.slice ra R.length rc) = W10 at *
  have n0 := cell_blk H10.out.n 0 _ rfl
  have n1 := cell_blk H10.out.n 1 _ rfl
  have n2 := cell_blk H10.out.n 2 _ rfl
  have n3 := cell_blk H10.out.n 3 _ rfl
  have n4 := cell_blk H10.out.n 4 _ rfl
  have n5 := cell_blk H10.out.n 5 _ rfl
  have n6 := cell_blk H10.out.n 6 _ rfl
  have n7 := cell_blk H10.out.n 7 _ rfl
  have n8 := cell_blk H10.out.n 8 _ rfl
  obtain ⟨_, _, e9, _, _, _, h4⟩ := QM2.out
  cases e9
  obtain ⟨tb, toff, rfl, _⟩ := h4 (by intro e; rw [e] at ht1; simp at ht1)
  clear h4
  have hq10 : q < W10.heap.size := H10.out.hi
  go_wp2_with fail
  have HBA : Hid (Below W10.heap.size W10 (W10.alloc (.cells #[.slice (some ⟨tb, toff, none⟩) t.length mc, .slice ra R.length rc] 23))) := (Below.refl _ _).alloc (Nat.le_refl _) _
  have H11 := hid (H10.out.next HBA.out)
  have P1' := hid (P1.out.under HBA.out)
  have PA' := hid (PA.out.under HBA.out)
  have PR' := hid (PR.out.under HBA.out)
  have HG : Hid ((W10.alloc (.cells #[.slice (some ⟨tb, toff, none⟩) t.length mc, .slice ra R.length rc] 23)).heap[W10.heap.size]? = some (.cells #[.slice (some ⟨tb, toff, none⟩) t.length mc, .slice ra R.length rc] 23)) := heap_alloc_new _ _
  clear n0 n1 n2 n3 n4 n5 n6 n7 n8 P1 PA PR H10
  generalize W10.alloc (.cells #[.slice (some ⟨tb, toff, none⟩) t.length mc, .slice ra R.length rc] 23) = W11 at *
  have G52 := hid (concat_any (QM.out.under H11.out.t.b) PR'.out.1 HG.out ht1 (by omega))
  rw [HCC.out] at G52
  refine G52.out.mono ?_
  rintro e W12 ⟨v', rfl, h1, h2, hb⟩
  obtain ⟨ca, cc, rfl, _⟩ := h1.shape
  have H12 := hid (H11.out.next hb)
  have MC := hid (ln_new (w := w) h1 h2 H11.out.hi H11.out.lo)
  have M1 := hid (P1'.out.under hb)
  have MA := hid (PA'.out.under hb)
  have MR := hid (PR'.out.under hb)
  clear h1 h2 hb P1' PA' PR' H11 HG HBA
  have n0 := cell_blk H12.out.n 0 _ rfl
  have n1 := cell_blk H12.out.n 1 _ rfl
  have n2 := cell_blk H12.out.n 2 _ rfl
  have n3 := cell_blk H12.out.n 3 _ rfl
  have n4 := cell_blk H12.out.n 4 _ rfl
  have n5 := cell_blk H12.out.n 5 _ rfl
  have n6 := cell_blk H12.out.n 6 _ rfl
  have n7 := cell_blk H12.out.n 7 _ rfl
  have n8 := cell_blk H12.out.n 8 _ rfl
  have fn := frz_blk H12.out.n
  go_upto_region 14 with fail
  have H13 : Hid (ThreeB w (W12.setCell ⟨q, 5, none⟩ (.slice ca C.length cc)) q #[.int .i64 id, .int .i64 ld, .int .i64 ep, .int .i64 vr, .slice a1 isr.length c1, .slice a2 reps.length c2, .slice a3 add.length c3, .slice a4 rem.length c4, .int .i64 mn] #[.int .i64 0, .int .i64 0, .int .i64 0, .int .i64 0, .slice none 0 0, .slice none 0 0, .slice none 0 0, .slice none 0 0, .int .i64 0] #[.int .i64 id, .int .i64 ld, .int .i64 ep, .int .i64 vr, .slice x1 isr.length y1, .slice ca C.length cc, .slice aa A.length ac, .slice ra R.length rc, .int .i64 mn]) := H12.out.setn 5 _
  have P1 := hid (M1.out.setn 5 (.slice ca C.length cc))
  have PA := hid (MA.out.setn 5 (.slice ca C.length cc))
  have PR := hid (MR.out.setn 5 (.slice ca C.length cc))
  have PC := hid (MC.out.setn 5 (.slice ca C.length cc))
  clear n0 n1 n2 n3 n4 n5 n6 n7 n8 fn M1 MA MR MC H12
  generalize W12.setCell ⟨q, 5, none⟩ (.slice ca C.length cc) = W13 at *
  have HT13 := hid H13.out.t
  have k0 := cell_blk HT13.out.x 0 _ rfl
  have k1 := cell_blk HT13.out.x 1 _ rfl
  have k2 := cell_blk HT13.out.x 2 _ rfl
  have k3 := cell_blk HT13.out.x 3 _ rfl
  have k4 := cell_blk HT13.out.x 4 _ rfl
  have k5 := cell_blk HT13.out.x 5 _ rfl
  have k6 := cell_blk HT13.out.x 6 _ rfl
  have k7 := cell_blk HT13.out.x 7 _ rfl
  have k8 := cell_blk HT13.out.x 8 _ rfl
  have z0 := cell_blk HT13.out.z 0 _ rfl
  have z1 := cell_blk HT13.out.z 1 _ rfl
  have z2 := cell_blk HT13.out.z 2 _ rfl
  have z3 := cell_blk HT13.out.z 3 _ rfl
  have z4 := cell_blk HT13.out.z 4 _ rfl
  have z5 := cell_blk HT13.out.z 5 _ rfl
  have z6 := cell_blk HT13.out.z 6 _ rfl
  have z7 := cell_blk HT13.out.z 7 _ rfl
  have z8 := cell_blk HT13.out.z 8 _ rfl
  have fx := frz_blk HT13.out.x
  have fz := frz_blk HT13.out.z
  have n0 := cell_blk H13.out.n 0 _ rfl
  have n1 := cell_blk H13.out.n 1 _ rfl
  have n2 := cell_blk H13.out.n 2 _ rfl
  have n3 := cell_blk H13.out.n 3 _ rfl
  have n4 := cell_blk H13.out.n 4 _ rfl
  have n5 := cell_blk H13.out.n 5 _ rfl
  have n6 := cell_blk H13.out.n 6 _ rfl
  have n7 := cell_blk H13.out.n 7 _ rfl
  have n8 := cell_blk H13.out.n 8 _ rfl
  have G53 := hid (changed_any (X := fun b => w.heap.size + 2 ≤ b) (w := W13) (v := .agg #[.int .i64 id, .int .i64 ld, .int .i64 ep, .int .i64 vr, .slice x1 isr.length y1, .slice ca C.length cc, .slice aa A.length ac, .slice ra R.length rc, .int .i64 mn]) (p := ⟨id, ld, ep, vr, isr, C, A, R, mn⟩) ⟨_, _, _, _, rfl, P1.out.1, PC.out.1, PA.out.1, PR.out.1, HI.out⟩ (inP_of P1.out.in PC.out.in PA.out.in PR.out.in) ld HI.out.2.1 hep hvr)
  have HR2 := hid HR.out
  clear HR
  generalize changedP ⟨id, ld, ep, vr, isr, C, A, R, mn⟩ ld = r2 at *
  obtain ⟨⟨rid, rld, rep, rvr, rl1, rl2, rl3, rl4, rmn⟩, re⟩ := r2
  go_wp2_with fail
  refine G53.out.mono ?_
  rintro e W14 ⟨v', rfl, h1, h2, hb⟩
  obtain ⟨t1, u1, t2, u2, t3, u3, t4, u4, rfl, q1, q2, q3, q4, ii⟩ := h1.open
  obtain ⟨n1, n2, n3, n4⟩ := h2 _ _ _ _ _ _ _ _ _ rfl
  simp only at q1 q2 q3 q4 n1 n2 n3 n4 ii
  have HT14 := hid (HT13.out.next hb)
  have HL : Hid (IA w W14 (.slice t1 rl1.length u1) rl1 ∧ IA w W14 (.slice t2 rl2.length u2) rl2 ∧ IA w W14 (.slice t3 rl3.length u3) rl3 ∧ IA w W14 (.slice t4 rl4.length u4) rl4) := ⟨⟨q1, n1.mono fun b hx => .inr hx⟩, ⟨q2, n2.mono fun b hx => .inr hx⟩, ⟨q3, n3.mono fun b hx => .inr hx⟩, ⟨q4, n4.mono fun b hx => .inr hx⟩⟩
  have HN : Hid (InP (fun b => w.heap.size ≤ b) (.agg #[.int .i64 rid, .int .i64 rld, .int .i64 rep, .int .i64 rvr, .slice t1 rl1.length u1, .slice t2 rl2.length u2, .slice t3 rl3.length u3, .slice t4 rl4.length u4, .int .i64 rmn]) ⟨rid, rld, rep, rvr, rl1, rl2, rl3, rl4, rmn⟩) := h2.mono fun b hx => by omega
  have HI2 := hid ii
  clear q1 q2 q3 q4 n1 n2 n3 n4 ii h1 h2 hb k0 k1 k2 k3 k4 k5 k6 k7 k8 z0 z1 z2 z3 z4 z5 z6 z7 z8 fx fz
  have k0 := cell_blk HT14.out.x 0 _ rfl
  have k1 := cell_blk HT14.out.x 1 _ rfl
  have k2 := cell_blk HT14.out.x 2 _ rfl
  have k3 := cell_blk HT14.out.x 3 _ rfl
  have k4 := cell_blk HT14.out.x 4 _ rfl
  have k5 := cell_blk HT14.out.x 5 _ rfl
  have k6 := cell_blk HT14.out.x 6 _ rfl
  have k7 := cell_blk HT14.out.x 7 _ rfl
  have k8 := cell_blk HT14.out.x 8 _ rfl
  have z0 := cell_blk HT14.out.z 0 _ rfl
  have z1 := cell_blk HT14.out.z 1 _ rfl
  have z2 := cell_blk HT14.out.z 2 _ rfl
  have z3 := cell_blk HT14.out.z 3 _ rfl
  have z4 := cell_blk HT14.out.z 4 _ rfl
  have z5 := cell_blk HT14.out.z 5 _ rfl
  have z6 := cell_blk HT14.out.z 6 _ rfl
  have z7 := cell_blk HT14.out.z 7 _ rfl
  have z8 := cell_blk HT14.out.z 8 _ rfl
  have fx := frz_blk HT14.out.x
  have fz := frz_blk HT14.out.z
  go_wp2_with fail
  obtain ⟨hoff, hsz9⟩ := nine_off W14 (w.heap.size + 1) (.int .i64 rid) (.int .i64 rld) (.int .i64 rep) (.int .i64 rvr) (.slice t1 rl1.length u1) (.slice t2 rl2.length u2) (.slice t3 rl3.length u3) (.slice t4 rl4.length u4) (.int .i64 rmn)
  have HT9 := hid (nine_z HT14.out rfl (.int .i64 rid) (.int .i64 rld) (.int .i64 rep) (.int .i64 rvr) (.slice t1 rl1.length u1) (.slice t2 rl2.length u2) (.slice t3 rl3.length u3) (.slice t4 rl4.length u4) (.int .i64 rmn))
  have HOFF := hid hoff
  clear hoff k0 k1 k2 k3 k4 k5 k6 k7 k8 z0 z1 z2 z3 z4 z5 z6 z7 z8 fx fz
  generalize (((((((((W14.setCell ⟨w.heap.size + 1, 0, none⟩ (.int .i64 rid)).setCell ⟨w.heap.size + 1, 1, none⟩ (.int .i64 rld)).setCell ⟨w.heap.size + 1, 2, none⟩ (.int .i64 rep)).setCell ⟨w.heap.size + 1, 3, none⟩ (.int .i64 rvr)).setCell ⟨w.heap.size + 1, 4, none⟩ (.slice t1 rl1.length u1)).setCell ⟨w.heap.size + 1, 5, none⟩ (.slice t2 rl2.length u2)).setCell ⟨w.heap.size + 1, 6, none⟩ (.slice t3 rl3.length u3)).setCell ⟨w.heap.size + 1, 7, none⟩ (.slice t4 rl4.length u4)).setCell ⟨w.heap.size + 1, 8, none⟩ (.int .i64 rmn)) = W9 at *
  have r0 := cell_blk HT9.out.z 0 _ rfl
  have r1 := cell_blk HT9.out.z 1 _ rfl
  have r2 := cell_blk HT9.out.z 2 _ rfl
  have r3 := cell_blk HT9.out.z 3 _ rfl
  have r4 := cell_blk HT9.out.z 4 _ rfl
  have r5 := cell_blk HT9.out.z 5 _ rfl
  have r6 := cell_blk HT9.out.z 6 _ rfl
  have r7 := cell_blk HT9.out.z 7 _ rfl
  have r8 := cell_blk HT9.out.z 8 _ rfl
  exact bodyPost_ret (v := .tuple #[.agg #[.int .i64 rid, .int .i64 rld, .int .i64 rep, .int .i64 rvr, .slice t1 rl1.length u1, .slice t2 rl2.length u2, .slice t3 rl3.length u3, .slice t4 rl4.length u4, .int .i64 rmn], .int .i64 re]) (by simp [results, Tryz.results184, go_sem, r0, r1, r2, r3, r4, r5, r6, r7, r8]) rfl (by rw [HR2.out]; exact ⟨_, rfl, ⟨_, _, _, _, rfl, HL.out.1.offz HOFF.out hsz9, HL.out.2.1.offz HOFF.out hsz9, HL.out.2.2.1.offz HOFF.out hsz9, HL.out.2.2.2.offz HOFF.out hsz9, HI2.out⟩, HN.out, HT9.out.b⟩)
end Go.Proofs.YtcffomhcmilcpaaGreat

/- An image in memory: its block, the map of brokers, the rows of topics, of partitions and of epochs, the partitions' lists. -/
namespace Go.Proofs.YtcffomhcmilcpaaGreat
open Go.RowKit Go.Maps
set_option maxRecDepth 100000
set_option linter.unusedSimpArgs false
set_option linter.unusedVariables false

theorem wf_of {k : Int} (h : I64 k) : (Lit.int .i64 k).wf = true := WalkArith.wf_i64 h
theorem law3 : Keyed Tryz.prog 3 := int_keyed Tryz.underlying3
def Br.val (b : Br) : Value := .agg #[.int .i64 b.life, .bool b.up]
theorem zero93 (w : World) : (zeroValue 93).run Tryz.prog w = .ok zeroB.val w := by kernel_rfl
def Rh (v : Value) : Option (DataW Value × List MemPlace) :=
  match v with
  | .agg cs => (match cs.toList with
    | [.int .i64 _, .bool _] => some (.held v, [])
    | _ => none)
  | _ => none
theorem Rh_mk (b : Br) : Rh b.val = some (.held b.val, []) := rfl
theorem Rh_inv {v : Value} {y : DataW Value × List MemPlace} (h : Rh v = some y) : (∃ b : Br, v = b.val) ∧ y = (.held v, []) := by
  unfold Rh at h
  split at h
  · rename_i cs
    split at h
    · rename_i l u e
      refine ⟨⟨⟨l, u⟩, ?_⟩, by simpa using h.symm⟩
      unfold Br.val
      rw [← Array.toArray_toList (xs := cs), e]
    · cases h
  · cases h
def dmap (bs : BM) : DataW Value := .map (bs.map fun p => (Lit.int .i64 p.1, .held p.2.val))
theorem dmap_size (bs : BM) : Maps.size (dmap bs) = bs.length := by simp [dmap, Maps.size]
theorem sk (a b : Int) : (Lit.int .i64 a).sameKey (.int .i64 b) = (a == b) := by
  show (decide _ : Bool) = _
  rw [Bool.eq_iff_iff]; simp [Lit.sameKey]
theorem find_dmap (n : Int) : ∀ bs : BM,
    (bs.map fun p => (Lit.int .i64 p.1, (DataW.held p.2.val : DataW Value))).find? (fun p => p.1.sameKey (.int .i64 n)) = (bs.find? (fun p => p.1 == n)).map fun p => (Lit.int .i64 p.1, .held p.2.val)
  | [] => rfl
  | p :: r => by
    simp only [List.map_cons, List.find?_cons, sk]
    cases p.1 == n
    · exact find_dmap n r
    · rfl
theorem dmap_atKey (bs : BM) (n : Int) : (dmap bs).atKey (.int .i64 n) (.held zeroB.val) = .held (valB bs n).val := by
  unfold DataW.atKey dmap
  simp only [find_dmap]
  unfold valB getB
  cases bs.find? (fun p => p.1 == n) <;> rfl
theorem dmap_has (n : Int) (bs : BM) : Maps.has (dmap bs) (.int .i64 n) = (getB bs n).isSome := by
  unfold getB dmap Maps.has
  simp only [Option.isSome_map]
  induction bs with
  | nil => rfl
  | cons p r ih =>
    simp only [List.map_cons, List.any_cons, sk, List.find?_cons]
    cases p.1 == n
    · simpa only [Bool.false_or] using ih
    · rfl
theorem insert_dmap (x : Int × Br) : ∀ bs : BM,
    DataW.insert (Lit.int .i64 x.1, (DataW.held x.2.val : DataW Value)) (bs.map fun p => (Lit.int .i64 p.1, .held p.2.val)) = (insB x bs).map fun p => (Lit.int .i64 p.1, .held p.2.val)
  | [] => rfl
  | p :: r => by
    have ih := insert_dmap x r
    by_cases hb : x.1 < p.1
    · simp [List.map_cons, DataW.insert, insB, Lit.before, hb]
    · simp [List.map_cons, DataW.insert, insB, Lit.before, hb, ih]
theorem filter_dmap (n : Int) : ∀ bs : BM,
    (bs.map fun p => (Lit.int .i64 p.1, (DataW.held p.2.val : DataW Value))).filter (fun p => !p.1.sameKey (.int .i64 n)) = (delB bs n).map fun p => (Lit.int .i64 p.1, .held p.2.val)
  | [] => rfl
  | p :: r => by
    have ih := filter_dmap n r
    unfold delB at ih ⊢
    simp only [List.map_cons, List.filter_cons, sk, ih]
    split <;> simp
theorem dmap_put (bs : BM) (n : Int) (f : Br) : (dmap bs).put (.int .i64 n) (.held f.val) = dmap (putB bs n f) := by
  show DataW.map (DataW.insert (.int .i64 n, .held f.val) ((bs.map fun p => (Lit.int .i64 p.1, (DataW.held p.2.val : DataW Value))).filter (fun p => !p.1.sameKey (.int .i64 n)))) = _
  rw [filter_dmap, insert_dmap (n, f)]
  rfl
theorem tight {w : World} {b m : Nat} {D : DataW Value} (h : w.ownsMap Tryz.prog 3 Rh b m D) : w.ownsMap Tryz.prog 3 Rh b (Maps.size D) D := by
  obtain ⟨es, clock, hm, F, hs, rfl⟩ := h
  exact ⟨es, clock, hm, F, by simp [Maps.size, length_sorted], rfl⟩

def flatT : List Tp → List Value
  | [] => []
  | x :: r => [.string x.name, .int .i64 x.first, .int .i64 x.count] ++ flatT r
def pc (v : Value) : List Value := match v with | .agg cs => cs.toList | _ => []
def flatP : List (Value × Pt) → List Value
  | [] => []
  | x :: r => pc x.1 ++ flatP r
def intsV (l : List Int) : List Value := l.map fun x => .int .i64 x
theorem flatT_length : ∀ l : List Tp, (flatT l).length = l.length * 3
  | [] => rfl
  | m :: r => by simp [flatT, flatT_length r]; omega
theorem flatT_append : ∀ l m : List Tp, flatT (l ++ m) = flatT l ++ flatT m
  | [], m => rfl
  | x :: r, m => by simp [flatT, flatT_append r m]
theorem flatP_append : ∀ l m : List (Value × Pt), flatP (l ++ m) = flatP l ++ flatP m
  | [], m => rfl
  | x :: r, m => by simp [flatP, flatP_append r m]
theorem flatP_length : ∀ l : List (Value × Pt), (∀ x ∈ l, (pc x.1).length = 9) → (flatP l).length = l.length * 9
  | [], _ => rfl
  | m :: r, h => by
    have h1 := h m (by simp)
    have h2 := flatP_length r (fun x hx => h x (by simp [hx]))
    simp only [flatP, List.length_append, List.length_cons]
    omega
theorem flatP_get : ∀ (l : List (Value × Pt)) (i t : Nat), (∀ x ∈ l, (pc x.1).length = 9) → t < 9 → (flatP l)[i * 9 + t]? = (l[i]?).bind fun x => (pc x.1)[t]?
  | [], i, t, _, _ => by simp [flatP]
  | x :: r, 0, t, h, ht => by
    have h1 := h x (by simp)
    simp only [flatP, Nat.zero_mul, Nat.zero_add, List.getElem?_cons_zero, Option.bind_some]
    exact List.getElem?_append_left (by omega)
  | x :: r, i + 1, t, h, ht => by
    have h1 := h x (by simp)
    have e1 : (i + 1) * 9 + t = 9 + (i * 9 + t) := by omega
    rw [e1]
    simp only [flatP, List.getElem?_cons_succ]
    rw [List.getElem?_append_right (by omega), h1]
    rw [show 9 + (i * 9 + t) - 9 = i * 9 + t by omega]
    exact flatP_get r i t (fun x hx => h x (by simp [hx])) ht
theorem flatT_get : ∀ (l : List Tp) (i : Nat) (x : Tp), l[i]? = some x → (flatT l)[i * 3]? = some (.string x.name) ∧ (flatT l)[i * 3 + 1]? = some (.int .i64 x.first) ∧ (flatT l)[i * 3 + 2]? = some (.int .i64 x.count)
  | [], i, m, h => by simp at h
  | y :: r, 0, m, h => by simp at h; subst h; simp [flatT]
  | y :: r, i + 1, m, h => by
    have ih := flatT_get r i m (by simpa using h)
    have e : ∀ j, (flatT (y :: r))[(i + 1) * 3 + j]? = (flatT r)[i * 3 + j]? := fun j => by
      have e1 : (i + 1) * 3 + j = 3 + (i * 3 + j) := by omega
      rw [e1]
      show ([_, _, _] ++ flatT r)[3 + (i * 3 + j)]? = _
      rw [List.getElem?_append_right (by simp)]
      congr 1
      simp
    refine ⟨?_, ?_, ?_⟩
    · have := e 0; simp only [Nat.add_zero] at this; rw [this]; exact ih.1
    · rw [e 1]; exact ih.2.1
    · rw [e 2]; exact ih.2.2
theorem pc_part {w : World} {v : Value} {p : Pt} (h : PartM w v p) : (pc v).length = 9 := by
  obtain ⟨a, b, c, d, rfl, _⟩ := h
  rfl

/-- What a call may turn: the blocks of S; all else that was there is as it was. -/
structure Keeps (S : Nat → Prop) (w w' : World) : Prop where
  os : w'.os = w.os
  tape : w'.tape = w.tape
  output : w'.output = w.output
  size : w.heap.size ≤ w'.heap.size
  block : ∀ k, k < w.heap.size → ¬ S k → w'.heap[k]? = w.heap[k]?
theorem Keeps.refl (S : Nat → Prop) (w : World) : Keeps S w w := ⟨rfl, rfl, rfl, Nat.le_refl _, fun _ _ _ => rfl⟩
theorem Keeps.of_below {S : Nat → Prop} {w w1 : World} (h : Below w.heap.size w w1) : Keeps S w w1 := ⟨h.os, h.tape, h.output, h.size, fun k hk _ => h.block k hk⟩
theorem Keeps.of_grown {S : Nat → Prop} {w w1 : World} {r : Option Nat} (h : w.grownBy w1 r) (hr : ∀ k, r = some k → S k) : Keeps S w w1 := ⟨h.os, h.tape, h.output, h.size, fun k hk hS => h.block k hk (fun e => hS (hr k e.symm))⟩
theorem Keeps.trans {S T : Nat → Prop} {w w1 w2 : World} (h : Keeps S w w1) (k : Keeps T w1 w2) (hT : ∀ x, T x → S x ∨ w.heap.size ≤ x) : Keeps S w w2 :=
  ⟨k.os.trans h.os, k.tape.trans h.tape, k.output.trans h.output, Nat.le_trans h.size k.size, fun x hx hS => (k.block x (Nat.lt_of_lt_of_le hx h.size) (fun ht => by rcases hT x ht with h1 | h1; exact hS h1; omega)).trans (h.block x hx hS)⟩
theorem Keeps.mono {S T : Nat → Prop} {w w1 : World} (h : Keeps S w w1) (hT : ∀ x, S x → T x) : Keeps T w w1 := ⟨h.os, h.tape, h.output, h.size, fun k hk hS => h.block k hk (fun e => hS (hT k e))⟩
theorem Keeps.below {S : Nat → Prop} {w w1 : World} {B : Nat} (h : Keeps S w w1) (hB : B ≤ w.heap.size) (hS : ∀ k, S k → B ≤ k) : Below B w w1 :=
  ⟨h.os, h.tape, h.output, h.size, fun k hk => h.block k (Nat.lt_of_lt_of_le hk hB) (fun hs => by have := hS k hs; omega)⟩
theorem Keeps.set {S : Nat → Prop} (w : World) {a : Addr} (ha : S a.block) (u : Value) : Keeps S w (w.setCell a u) :=
  ⟨rfl, rfl, rfl, by simp, fun k hk hS => Below.heap_setCell _ _ _ _ (fun e => hS (by subst e; exact ha))⟩

/-- The blocks that an image's calls may turn. -/
def Own (q b : Nat) (vt vp ve : Value) (k : Nat) : Prop := k = q ∨ k = b ∨ vt.ownBlock = some k ∨ vp.ownBlock = some k ∨ ve.ownBlock = some k
structure ImC (w : World) (L : Nat → Prop) (q b : Nat) (vt vp ve : Value) (ps : List (Value × Pt)) (I : Im) : Prop where
  cells : w.heap[q]? = some (.cells #[.int .i64 I.applied, .map (some b), vt, vp, ve] 70 (0, 0))
  bmap : w.ownsMap Tryz.prog 3 Rh b I.brs.length (dmap I.brs)
  tops : w.ownsRow 0 96 3 vt I.tops.length (flatT I.tops)
  parts : w.ownsRow 0 54 9 vp ps.length (flatP ps)
  eps : w.ownsRow 0 3 1 ve I.eps.length (intsV I.eps)
  each : ∀ x ∈ ps, PartM w x.1 x.2 ∧ InP L x.1 x.2
  abs : I.parts = ps.map (·.2)
  lists : ∀ k, L k → k < w.heap.size ∧ ¬ Own q b vt vp ve k
  ok : ImOk I
theorem row_lt {w : World} {e s : Nat} {v : Value} {n : Nat} {xs : List Value} (h : w.ownsRow 0 e s v n xs) {k : Nat} (hk : v.ownBlock = some k) : k < w.heap.size := (World.ownsRow.lt h k hk).2
theorem row_blk {w : World} {e s : Nat} {v : Value} {n : Nat} {xs : List Value} (h : w.ownsRow 0 e s v n xs) {k : Nat} (hk : v.ownBlock = some k) : ∃ cur, w.heap[k]? = some (.cells cur e (0, 0)) := by
  obtain ⟨h1, ⟨rfl, _⟩ | ⟨g, cap, cur, rfl, hB, hg, r⟩⟩ := h
  · cases hk
  · cases hk; exact ⟨cur, hg⟩
theorem row_kept {w w1 : World} {e s : Nat} {v : Value} {n : Nat} {xs : List Value} (h : w.ownsRow 0 e s v n xs) (hb : ∀ k, v.ownBlock = some k → w1.heap[k]? = w.heap[k]?) : w1.ownsRow 0 e s v n xs := by
  obtain ⟨h1, h2⟩ := h
  rcases h2 with h2 | ⟨g, cap, cur, rfl, hB, hg, r⟩
  · exact ⟨h1, .inl h2⟩
  · exact ⟨h1, .inr ⟨g, cap, cur, rfl, hB, (hb g rfl).trans hg, r⟩⟩
theorem row_shape {w : World} {e s : Nat} {v : Value} {n : Nat} {xs : List Value} (h : w.ownsRow 0 e s v n xs) : ∃ oa cap, v = .slice oa n cap ∧ n ≤ cap ∧ cap ≤ maxLen ∧ (oa = none → cap = 0) ∧ (0 < n → ∃ g, oa = some ⟨g, 0, none⟩) := by
  obtain ⟨_, ⟨e, h0⟩ | ⟨g, cap, cur, e, hb, hg, hn, hc, hs, ht⟩⟩ := h
  · exact ⟨none, 0, by rw [e, h0], by omega, Nat.zero_le _, fun _ => rfl, fun h => by omega⟩
  · exact ⟨some ⟨g, 0, none⟩, cap, e, hn, hc, (fun h => by cases h), fun _ => ⟨g, rfl⟩⟩
theorem IL.kept {w w' : World} {v : Value} {l : List Int} {X : Nat → Prop} (h : IL w v l) (hX : In X v l) (hb : ∀ k, X k → w'.heap[k]? = w.heap[k]?) (hs : w.heap.size ≤ w'.heap.size) : IL w' v l := by
  obtain ⟨⟨a, cap, rfl, h1, h2, h3, h4⟩, h5, h6⟩ := h
  refine ⟨⟨a, cap, rfl, h1, h2, h3, fun hn => ?_⟩, h5, h6⟩
  obtain ⟨b, off, rfl, e2, e3⟩ := h4 hn
  exact ⟨b, off, rfl, Nat.lt_of_lt_of_le e2 hs, fun i hi => (World.cell?_of_block (a := ⟨b, off + i, none⟩) (hb b (hX hn b off _ _ rfl))).trans (e3 i hi)⟩
theorem PartM.kept {w w' : World} {v : Value} {p : Pt} {X : Nat → Prop} (h : PartM w v p) (hX : InP X v p) (hb : ∀ k, X k → w'.heap[k]? = w.heap[k]?) (hs : w.heap.size ≤ w'.heap.size) : PartM w' v p := by
  obtain ⟨a, b, c, d, rfl, h1, h2, h3, h4, h5⟩ := h
  obtain ⟨g1, g2, g3, g4⟩ := hX _ _ _ _ _ _ _ _ _ rfl
  exact ⟨a, b, c, d, rfl, h1.kept g1 hb hs, h2.kept g2 hb hs, h3.kept g3 hb hs, h4.kept g4 hb hs, h5⟩
section
variable {w : World} {L : Nat → Prop} {q b : Nat} {vt vp ve : Value} {ps : List (Value × Pt)} {I : Im}
theorem ImC.lt (h : ImC w L q b vt vp ve ps I) {k : Nat} (hk : Own q b vt vp ve k) : k < w.heap.size := by
  rcases hk with rfl | rfl | hk | hk | hk
  · exact (Array.getElem?_eq_some_iff.1 h.cells).1
  · exact h.bmap.lt
  · exact row_lt h.tops hk
  · exact row_lt h.parts hk
  · exact row_lt h.eps hk
theorem ImC.kept (h : ImC w L q b vt vp ve ps I) {w1 : World} (ho : ∀ k, Own q b vt vp ve k → w1.heap[k]? = w.heap[k]?) (hl : ∀ k, L k → w1.heap[k]? = w.heap[k]?) (hs : w.heap.size ≤ w1.heap.size) : ImC w1 L q b vt vp ve ps I := by
  refine ⟨(ho q (.inl rfl)).trans h.cells, ?_, row_kept h.tops (fun k hk => ho k (.inr (.inr (.inl hk)))), row_kept h.parts (fun k hk => ho k (.inr (.inr (.inr (.inl hk))))), row_kept h.eps (fun k hk => ho k (.inr (.inr (.inr (.inr hk))))), fun x hx => ?_, h.abs, fun k hk => ⟨Nat.lt_of_lt_of_le (h.lists k hk).1 hs, (h.lists k hk).2⟩, h.ok⟩
  · obtain ⟨es, clock, hm, r⟩ := h.bmap
    exact ⟨es, clock, (ho b (.inr (.inl rfl))).trans hm, r⟩
  · obtain ⟨h1, h2⟩ := h.each x hx
    exact ⟨h1.kept h2 hl hs, h2⟩
theorem ImC.under (h : ImC w L q b vt vp ve ps I) {w1 : World} (hb : Below w.heap.size w w1) : ImC w1 L q b vt vp ve ps I :=
  h.kept (fun k hk => hb.block k (h.lt hk)) (fun k hk => hb.block k (h.lists k hk).1) hb.size
theorem ImC.c0 (h : ImC w L q b vt vp ve ps I) : w.cell? ⟨q, 0, none⟩ = some (.int .i64 I.applied) := cell_blk h.cells 0 _ rfl
theorem ImC.c1 (h : ImC w L q b vt vp ve ps I) : w.cell? ⟨q, 1, none⟩ = some (.map (some b)) := cell_blk h.cells 1 _ rfl
theorem ImC.c2 (h : ImC w L q b vt vp ve ps I) : w.cell? ⟨q, 2, none⟩ = some vt := cell_blk h.cells 2 _ rfl
theorem ImC.c3 (h : ImC w L q b vt vp ve ps I) : w.cell? ⟨q, 3, none⟩ = some vp := cell_blk h.cells 3 _ rfl
theorem ImC.c4 (h : ImC w L q b vt vp ve ps I) : w.cell? ⟨q, 4, none⟩ = some ve := cell_blk h.cells 4 _ rfl
theorem ImC.fz (h : ImC w L q b vt vp ve ps I) (j : Nat) : w.frozen? ⟨q, j, none⟩ = false := frz_blk h.cells j
theorem ImC.plen (h : ImC w L q b vt vp ve ps I) : I.parts.length = ps.length := by rw [h.abs, List.length_map]
/-- Blocks of other kinds are other blocks. -/
theorem ImC.ne_qb (h : ImC w L q b vt vp ve ps I) : q ≠ b := fun e => by
  obtain ⟨es, clock, hm, r⟩ := h.bmap
  rw [← e, h.cells] at hm; cases hm
theorem ImC.ne_q (h : ImC w L q b vt vp ve ps I) : vt.ownBlock ≠ some q ∧ vp.ownBlock ≠ some q ∧ ve.ownBlock ≠ some q := by
  refine ⟨fun e => ?_, fun e => ?_, fun e => ?_⟩
  · obtain ⟨cur, hc⟩ := row_blk h.tops e; rw [h.cells] at hc; cases hc
  · obtain ⟨cur, hc⟩ := row_blk h.parts e; rw [h.cells] at hc; cases hc
  · obtain ⟨cur, hc⟩ := row_blk h.eps e; rw [h.cells] at hc; cases hc
theorem ImC.ne_b (h : ImC w L q b vt vp ve ps I) : vt.ownBlock ≠ some b ∧ vp.ownBlock ≠ some b ∧ ve.ownBlock ≠ some b := by
  obtain ⟨es, clock, hm, r⟩ := h.bmap
  refine ⟨fun e => ?_, fun e => ?_, fun e => ?_⟩
  · obtain ⟨cur, hc⟩ := row_blk h.tops e; rw [hm] at hc; cases hc
  · obtain ⟨cur, hc⟩ := row_blk h.parts e; rw [hm] at hc; cases hc
  · obtain ⟨cur, hc⟩ := row_blk h.eps e; rw [hm] at hc; cases hc
theorem ImC.ne_rows (h : ImC w L q b vt vp ve ps I) {k : Nat} : (vt.ownBlock = some k → vp.ownBlock ≠ some k) ∧ (vt.ownBlock = some k → ve.ownBlock ≠ some k) ∧ (vp.ownBlock = some k → ve.ownBlock ≠ some k) := by
  refine ⟨fun e e' => ?_, fun e e' => ?_, fun e e' => ?_⟩
  · obtain ⟨c1, h1⟩ := row_blk h.tops e; obtain ⟨c2, h2⟩ := row_blk h.parts e'; rw [h1] at h2; cases h2
  · obtain ⟨c1, h1⟩ := row_blk h.tops e; obtain ⟨c2, h2⟩ := row_blk h.eps e'; rw [h1] at h2; cases h2
  · obtain ⟨c1, h1⟩ := row_blk h.parts e; obtain ⟨c2, h2⟩ := row_blk h.eps e'; rw [h1] at h2; cases h2
theorem ImC.look (h : ImC w L q b vt vp ve ps I) (n : Int) (hn : I64 n) :
    (Instr.lookup 67 (.map (some b)) (.int .i64 n) false).run Tryz.prog w = .ok (valB I.brs n).val w := by
  have hkey := keyOf_int_mk Tryz.underlying3 (wf_of hn)
  obtain ⟨v, ps, hrun, hv⟩ := World.ownsMap.lookup h.bmap law3 Tryz.underlying67 (zero93 w) (zd := .held zeroB.val) (zp := []) rfl hkey
  rw [dmap_atKey] at hv
  have hv := (Rh_inv hv).2
  simp only [Prod.mk.injEq, DataW.held.injEq] at hv
  rw [hrun, ← hv.1]
theorem ImC.look_ok (h : ImC w L q b vt vp ve ps I) (n : Int) (hn : I64 n) :
    (Instr.lookup 67 (.map (some b)) (.int .i64 n) true).run Tryz.prog w = .ok (.tuple #[(valB I.brs n).val, .bool (getB I.brs n).isSome]) w := by
  have hkey := keyOf_int_mk Tryz.underlying3 (wf_of hn)
  obtain ⟨v, ps, hrun, hv⟩ := World.ownsMap.look_ok h.bmap law3 Tryz.underlying67 (zero93 w) (zd := .held zeroB.val) (zp := []) rfl hkey
  rw [dmap_atKey] at hv
  have hv := (Rh_inv hv).2
  simp only [Prod.mk.injEq, DataW.held.injEq] at hv
  rw [hrun, ← hv.1, dmap_has]
theorem ImOk.put {J : Im} (h : ImOk J) {n : Int} {x : Br} (hn : 1 ≤ n ∧ n ≤ 7) (hx : 1 ≤ x.life ∧ x.life ≤ 1000000000) : ImOk { J with brs := putB J.brs n x } :=
  ⟨rise_putB h.keys n x, fun p hp => by
    rcases (mem_putB _ _ _ _).1 hp with rfl | ⟨hp, _⟩
    · exact ⟨hn, hx⟩
    · exact h.brs p hp, h.parts, h.few, h.tops, h.name, h.nums, h.eps, h.epv, h.app⟩
theorem ImC.put (h : ImC w L q b vt vp ve ps I) {n : Int} {x : Br} (hn : 1 ≤ n ∧ n ≤ 7) (hx : 1 ≤ x.life ∧ x.life ≤ 1000000000) :
    ∃ w', (Instr.mapUpdate 67 (.map (some b)) (.int .i64 n) x.val).run Tryz.prog w = .ok () w' ∧ ImC w' L q b vt vp ve ps { I with brs := putB I.brs n x } ∧ w.grownBy w' (some b) := by
  have hl := keys_few h.ok.keys (fun p hp => (h.ok.brs p hp).1)
  obtain ⟨w', hrun, hown, ht⟩ := h.bmap.store law3 Tryz.underlying67 (by unfold maxLen; omega) (keyOf_int_mk Tryz.underlying3 (wf_of (k := n) (by unfold I64; omega))) (Rh_mk x)
  have hg := ht.grown
  have hs := hg.size
  have hnb := h.ne_b
  refine ⟨w', hrun, ⟨(hg.block q (h.lt (.inl rfl)) (fun e => h.ne_qb (by cases e; rfl))).trans h.cells, ?_, ?_, ?_, ?_, fun y hy => ?_, h.abs, fun k hk => ⟨Nat.lt_of_lt_of_le (h.lists k hk).1 hs, (h.lists k hk).2⟩, h.ok.put hn hx⟩, hg⟩
  · rw [dmap_put] at hown
    have := tight hown
    rw [dmap_size] at this
    exact this
  · exact row_kept h.tops (fun k hk => hg.block k (row_lt h.tops hk) (fun e => by cases e; exact hnb.1 hk))
  · exact row_kept h.parts (fun k hk => hg.block k (row_lt h.parts hk) (fun e => by cases e; exact hnb.2.1 hk))
  · exact row_kept h.eps (fun k hk => hg.block k (row_lt h.eps hk) (fun e => by cases e; exact hnb.2.2 hk))
  · obtain ⟨h1, h2⟩ := h.each y hy
    exact ⟨h1.kept h2 (fun k hk => hg.block k (h.lists k hk).1 (fun e => by cases e; exact (h.lists _ hk).2 (.inr (.inl rfl)))) hs, h2⟩
end
/-- An image all of whose blocks are among Z. -/
def Img (w : World) (Z : Nat → Prop) (q : Nat) (I : Im) : Prop := ∃ L b vt vp ve ps, ImC w L q b vt vp ve ps I ∧ (∀ k, Own q b vt vp ve k → Z k) ∧ (∀ k, L k → Z k) ∧ ∀ k, Z k → k < w.heap.size
/-- What a call leaves of it. -/
def IAfter (Z : Nat → Prop) (w w' : World) (q : Nat) (I : Im) : Prop := ∃ Z', Img w' Z' q I ∧ (∀ k, Z' k → Z k ∨ w.heap.size ≤ k) ∧ Keeps Z w w'
theorem Img.under {w w1 : World} {Z q I} (h : Img w Z q I) (hb : Below w.heap.size w w1) : Img w1 Z q I := by
  obtain ⟨L, b, vt, vp, ve, ps, h1, h2, h3, h4⟩ := h
  exact ⟨L, b, vt, vp, ve, ps, h1.under hb, h2, h3, fun k hk => Nat.lt_of_lt_of_le (h4 k hk) hb.size⟩
theorem Img.ok {w : World} {Z q I} (h : Img w Z q I) : ImOk I := by obtain ⟨L, b, vt, vp, ve, ps, h1, h2, h3, h4⟩ := h; exact h1.ok
theorem Img.after {w : World} {Z q I} (h : Img w Z q I) {w1 : World} (hb : Below w.heap.size w w1) : IAfter Z w w1 q I := ⟨Z, h.under hb, fun k hk => .inl hk, Keeps.of_below hb⟩
theorem IAfter.trans {Z Z1 : Nat → Prop} {w w1 w2 : World} {q : Nat} {I J : Im} (hi : Img w1 Z1 q I) (hz : ∀ k, Z1 k → Z k ∨ w.heap.size ≤ k) (hk : Keeps Z w w1) (h : IAfter Z1 w1 w2 q J) : IAfter Z w w2 q J := by
  obtain ⟨Z2, a1, a2, a3⟩ := h
  refine ⟨Z2, a1, fun k hk2 => ?_, hk.trans a3 hz⟩
  rcases a2 k hk2 with h1 | h1
  · exact hz k h1
  · exact .inr (Nat.le_trans hk.size h1)
/-- From the parts to the whole. -/
theorem ImC.after {w w1 : World} {L L1 : Nat → Prop} {q b b1 : Nat} {vt vp ve vt1 vp1 ve1 : Value} {ps ps1 : List (Value × Pt)} {I I1 : Im} {Z : Nat → Prop} (h0 : Img w Z q I) (h : ImC w1 L1 q b1 vt1 vp1 ve1 ps1 I1) (ho : ∀ k, Own q b1 vt1 vp1 ve1 k → Z k ∨ w.heap.size ≤ k) (hl : ∀ k, L1 k → Z k ∨ w.heap.size ≤ k) (hk : Keeps Z w w1) : IAfter Z w w1 q I1 :=
  ⟨fun k => (Own q b1 vt1 vp1 ve1 k ∨ L1 k), ⟨L1, b1, vt1, vp1, ve1, ps1, h, fun k hk => .inl hk, fun k hk => .inr hk, fun k hk => hk.elim (fun h1 => h.lt h1) (fun h1 => (h.lists k h1).1)⟩, fun k hk => hk.elim (ho k) (hl k), hk⟩

/-- A record that is there. -/
structure RecM (w : World) (v : Value) (r : Rc) : Prop where
  shape : ∃ lv, v = .agg #[.int .i64 r.kind, .int .i64 r.a, .int .i64 r.b, .int .i64 r.c, .int .i64 r.d, .string r.name, .string r.text, lv] ∧ IL w lv r.list
  ok : RcOk r
  name : r.name.size ≤ maxLen
theorem RecM.under {w w1 : World} {v : Value} {r : Rc} (h : RecM w v r) (hb : Below w.heap.size w w1) : RecM w1 v r := by
  obtain ⟨⟨lv, e, h1⟩, h2, h3⟩ := h
  exact ⟨⟨lv, e, h1.under hb⟩, h2, h3⟩
end Go.Proofs.YtcffomhcmilcpaaGreat

/- The library's contracts on the sorted keys of a map of ints, laid at this program. -/
namespace Go.Proofs
open Go.RowKit Go.Maps Go.Sort Go.Shelf

def Tryz.keys50_ren : Go.Shelf.Ren := ⟨fun | 7 => 110 | 10 => 144 | n => n, fun | 23 => 67 | 26 => 3 | 3 => 93 | 28 => 135 | 0 => 0 | 27 => 134 | 33 => 118 | 4 => 4 | n => n, fun | n => n⟩
theorem Tryz.keys50 : Go.Proofs.SlLaysZI.n7 Tryz.prog Tryz.keys50_ren := {
  mixed := by kernel_rfl
  f7 := ⟨"maps.Keys[map[int]logboom/meta.broker,int,logboom/meta.broker]", by decide, Tryz.func110.trans (congrArg some (by kernel_rfl))⟩
  f10 := ⟨"maps.Keys[map[int]logboom/meta.broker,int,logboom/meta.broker]$1", by decide, Tryz.func144.trans (congrArg some (by kernel_rfl))⟩
  t0 := Tryz.underlying0
  a0 := Tryz.isAgg0
  z0 := Tryz.sizeOf0
  v0 := Tryz.zeroValue0
  t4 := Tryz.underlying4
  a4 := Tryz.isAgg4
  z4 := Tryz.sizeOf4
  v4 := Tryz.zeroValue4
  t23 := Tryz.underlying67
  a23 := Tryz.isAgg67
  z23 := Tryz.sizeOf67
  v23 := Tryz.zeroValue67
  t26 := Tryz.underlying3
  a26 := Tryz.isAgg3
  z26 := Tryz.sizeOf3
  v26 := Tryz.zeroValue3
  t27 := Tryz.underlying134
  a27 := Tryz.isAgg134
  z27 := Tryz.sizeOf134
  v27 := Tryz.zeroValue134
  t28 := Tryz.underlying135
  a28 := Tryz.isAgg135
  z28 := Tryz.sizeOf135
  v28 := Tryz.zeroValue135
  t33 := Tryz.underlying118
  a33 := Tryz.isAgg118
  z33 := Tryz.sizeOf118
  v33 := Tryz.zeroValue118 }
def Tryz.sorted49_ren : Go.Shelf.Ren := ⟨fun | 6 => 109 | 8 => 142 | 9 => 143 | 11 => 173 | 13 => 112 | 12 => 174 | 23 => 154 | 24 => 155 | 14 => 189 | 15 => 190 | 16 => 191 | 17 => 192 | 18 => 193 | 19 => 194 | 20 => 195 | 21 => 196 | 22 => 197 | 25 => 206 | 26 => 176 | 27 => 177 | 28 => 207 | 29 => 208 | 30 => 209 | 31 => 211 | n => n, fun | 26 => 3 | 28 => 135 | 24 => 23 | 0 => 0 | 3 => 3 | 37 => 139 | 48 => 155 | 50 => 124 | 4 => 4 | 40 => 162 | 39 => 161 | 45 => 81 | 5 => 5 | 9 => 9 | 51 => 178 | 55 => 149 | 57 => 193 | 58 => 194 | 33 => 118 | n => n, fun | n => n⟩
theorem Tryz.sorted49 : Go.Proofs.SlLaysZI.n6 Tryz.prog Tryz.sorted49_ren := {
  mixed := by kernel_rfl
  f6 := ⟨"slices.Sorted[int]", by decide, Tryz.func109.trans (congrArg some (by kernel_rfl))⟩
  f8 := ⟨"slices.Collect[int]", by decide, Tryz.func142.trans (congrArg some (by kernel_rfl))⟩
  f11 := ⟨"slices.AppendSeq[[]int,int]", by decide, Tryz.func173.trans (congrArg some (by kernel_rfl))⟩
  t0 := Tryz.underlying0
  a0 := Tryz.isAgg0
  z0 := Tryz.sizeOf0
  v0 := Tryz.zeroValue0
  t24 := Tryz.underlying23
  a24 := Tryz.isAgg23
  z24 := Tryz.sizeOf23
  v24 := Tryz.zeroValue23
  t26 := Tryz.underlying3
  a26 := Tryz.isAgg3
  z26 := Tryz.sizeOf3
  v26 := Tryz.zeroValue3
  t28 := Tryz.underlying135
  a28 := Tryz.isAgg135
  z28 := Tryz.sizeOf135
  v28 := Tryz.zeroValue135
  i26 := by kernel_rfl }
def Tryz.sort72_ren : Go.Shelf.Ren := ⟨fun | 5 => 143 | 8 => 112 | 7 => 174 | 19 => 154 | 20 => 155 | 10 => 189 | 11 => 190 | 12 => 191 | 13 => 192 | 14 => 193 | 15 => 194 | 16 => 195 | 17 => 196 | 18 => 197 | 30 => 206 | 31 => 176 | 32 => 177 | 33 => 207 | 34 => 208 | 35 => 209 | 40 => 211 | n => n, fun | 23 => 23 | 25 => 3 | 3 => 3 | 32 => 139 | 22 => 23 | 0 => 0 | 44 => 155 | 46 => 124 | 4 => 4 | 36 => 162 | 35 => 161 | 41 => 81 | 5 => 5 | 9 => 9 | 53 => 178 | 57 => 149 | 63 => 193 | 64 => 194 | n => n, fun | n => n⟩
theorem Tryz.sort72 : Go.Proofs.SlLaysM.n5 Tryz.prog Tryz.sort72_ren := {
  mixed := by kernel_rfl
  f5 := ⟨"slices.Sort[[]int,int]", by decide, Tryz.func143.trans (congrArg some (by kernel_rfl))⟩
  f7 := ⟨"slices.pdqsortOrdered[int]", by decide, Tryz.func174.trans (congrArg some (by kernel_rfl))⟩
  f8 := Tryz.func112.trans (congrArg some (by kernel_rfl))
  f10 := ⟨"slices.insertionSortOrdered[int]", by decide, Tryz.func189.trans (congrArg some (by kernel_rfl))⟩
  f11 := ⟨"slices.heapSortOrdered[int]", by decide, Tryz.func190.trans (congrArg some (by kernel_rfl))⟩
  f12 := ⟨"slices.breakPatternsOrdered[int]", by decide, Tryz.func191.trans (congrArg some (by kernel_rfl))⟩
  f13 := ⟨"slices.choosePivotOrdered[int]", by decide, Tryz.func192.trans (congrArg some (by kernel_rfl))⟩
  f14 := ⟨"slices.reverseRangeOrdered[int]", by decide, Tryz.func193.trans (congrArg some (by kernel_rfl))⟩
  f15 := ⟨"slices.partialInsertionSortOrdered[int]", by decide, Tryz.func194.trans (congrArg some (by kernel_rfl))⟩
  f16 := ⟨"cmp.Less[int]", by decide, Tryz.func195.trans (congrArg some (by kernel_rfl))⟩
  f17 := ⟨"slices.partitionEqualOrdered[int]", by decide, Tryz.func196.trans (congrArg some (by kernel_rfl))⟩
  f18 := ⟨"slices.partitionOrdered[int]", by decide, Tryz.func197.trans (congrArg some (by kernel_rfl))⟩
  f19 := Tryz.func154.trans (congrArg some (by kernel_rfl))
  f20 := Tryz.func155.trans (congrArg some (by kernel_rfl))
  f30 := ⟨"slices.siftDownOrdered[int]", by decide, Tryz.func206.trans (congrArg some (by kernel_rfl))⟩
  f31 := Tryz.func176.trans (congrArg some (by kernel_rfl))
  f32 := Tryz.func177.trans (congrArg some (by kernel_rfl))
  f33 := ⟨"slices.medianAdjacentOrdered[int]", by decide, Tryz.func207.trans (congrArg some (by kernel_rfl))⟩
  f34 := ⟨"slices.medianOrdered[int]", by decide, Tryz.func208.trans (congrArg some (by kernel_rfl))⟩
  f35 := ⟨"cmp.isNaN[int]", by decide, Tryz.func209.trans (congrArg some (by kernel_rfl))⟩
  f40 := ⟨"slices.order2Ordered[int]", by decide, Tryz.func211.trans (congrArg some (by kernel_rfl))⟩
  t0 := Tryz.underlying0
  a0 := Tryz.isAgg0
  z0 := Tryz.sizeOf0
  v0 := Tryz.zeroValue0
  t3 := Tryz.underlying3
  a3 := Tryz.isAgg3
  z3 := Tryz.sizeOf3
  v3 := Tryz.zeroValue3
  t4 := Tryz.underlying4
  a4 := Tryz.isAgg4
  z4 := Tryz.sizeOf4
  v4 := Tryz.zeroValue4
  t5 := Tryz.underlying5
  a5 := Tryz.isAgg5
  z5 := Tryz.sizeOf5
  v5 := Tryz.zeroValue5
  t9 := Tryz.underlying9
  a9 := Tryz.isAgg9
  z9 := Tryz.sizeOf9
  v9 := Tryz.zeroValue9
  t22 := Tryz.underlying23
  a22 := Tryz.isAgg23
  z22 := Tryz.sizeOf23
  v22 := Tryz.zeroValue23
  t23 := Tryz.underlying23
  a23 := Tryz.isAgg23
  z23 := Tryz.sizeOf23
  v23 := Tryz.zeroValue23
  t25 := Tryz.underlying3
  a25 := Tryz.isAgg3
  z25 := Tryz.sizeOf3
  v25 := Tryz.zeroValue3
  t32 := Tryz.underlying139
  a32 := Tryz.isAgg139
  z32 := Tryz.sizeOf139
  v32 := Tryz.zeroValue139
  t35 := Tryz.underlying161
  a35 := Tryz.isAgg161
  z35 := Tryz.sizeOf161
  v35 := Tryz.zeroValue161
  t36 := Tryz.underlying162
  a36 := Tryz.isAgg162
  z36 := Tryz.sizeOf162
  v36 := Tryz.zeroValue162
  t41 := Tryz.underlying81
  a41 := Tryz.isAgg81
  z41 := Tryz.sizeOf81
  v41 := Tryz.zeroValue81
  t44 := Tryz.underlying155
  a44 := Tryz.isAgg155
  z44 := Tryz.sizeOf155
  v44 := Tryz.zeroValue155
  t46 := Tryz.underlying124
  a46 := Tryz.isAgg124
  z46 := Tryz.sizeOf124
  v46 := Tryz.zeroValue124
  t53 := Tryz.underlying178
  a53 := Tryz.isAgg178
  z53 := Tryz.sizeOf178
  v53 := Tryz.zeroValue178
  t57 := Tryz.underlying149
  a57 := Tryz.isAgg149
  z57 := Tryz.sizeOf149
  v57 := Tryz.zeroValue149
  t63 := Tryz.underlying193
  a63 := Tryz.isAgg193
  z63 := Tryz.sizeOf193
  v63 := Tryz.zeroValue193
  t64 := Tryz.underlying194
  a64 := Tryz.isAgg194
  z64 := Tryz.sizeOf194
  v64 := Tryz.zeroValue194 }

theorem Tryz.sorts49 (m : Nat) : AnyZI.SortsIn Tryz.prog Tryz.sorted49_ren Fence.wide m :=
  ⟨fun blk off cap ss W hH hblk hsz => callsIn_wide.2 (AnyM.slices_Sort_int Tryz.sort72 blk off cap ss W hH hblk hsz),
   fun p cap W => callsIn_wide.2 (AnyM.slices_Sort_int_none Tryz.sort72 p cap W)⟩
theorem Tryz.maps_Keys_50 (mb : Option Nat) (W : World) : CallsIn Fence.wide 5 Tryz.prog 110 #[.map mb] W fun e w' => e = .returned (.func (.func 144) #[] #[.pointer (some ⟨W.heap.size, 0, none⟩)]) ∧ w' = W.alloc (.cells #[.map mb] 67) :=
  AnyZI.keys_in Tryz.keys50 Fence.wide 5 trivial rfl mb W

set_option maxHeartbeats 1000000 in
theorem Tryz.slices_Sorted_keys_49_50 {H : Type} (b nn : Nat) (D0 : DataW H) (R : Value → Option (DataW H × List MemPlace)) (w : World) (hown : w.ownsMap Tryz.prog 3 R b nn D0) (hmax : Maps.size D0 ≤ maxLen) (hbytes : Maps.size D0 * 8 ≤ 140737488355328) :
    CallsIn Fence.wide 5 Tryz.prog 109 #[.func (.func 144) #[] #[.pointer (some ⟨w.heap.size, 0, none⟩)]] (w.alloc (.cells #[.map (some b)] 67)) fun e w' => ∃ (v : Value) (ss : List Int), e = .returned v ∧ ss.Perm (intKeys D0) ∧
      w'.ownsRow (w.alloc (.cells #[.map (some b)] 67)).heap.size 3 1 v ss.length ((ss.mergeSort (fun x y => decide (x ≤ y))).map encZ) ∧ (v = .slice none 0 0 ↔ ss = []) ∧ Below (w.alloc (.cells #[.map (some b)] 67)).heap.size (w.alloc (.cells #[.map (some b)] 67)) w' := by
  have hbl := hown.lt
  have hseq : SeqGives Fence.wide 2 Tryz.prog 144 #[.pointer (some ⟨w.heap.size, 0, none⟩)] encZ (fun ss => ss.Perm (intKeys D0)) (Maps.size D0) (w.alloc (.cells #[.map (some b)] 67)) :=
    AnyZI.keys_gives (ρ := Tryz.keys50_ren) { Tryz.keys50 with } Fence.wide _ trivial rfl (by omega) w.heap.size b nn D0 _ (by simp) (by simp) (by
      obtain ⟨es, clock, hb, Ft, hs, hD⟩ := hown
      exact ⟨es, clock, (Below.heap_alloc _ _ b hbl).trans hb, Ft, hs, hD⟩)
  exact AnyZI.sorted_in Tryz.sorted49 Fence.wide 5 trivial trivial trivial trivial rfl (by omega) (Tryz.sorts49 _) (enters_of Tryz.func143 (by kernel_rfl) rfl) 144 #[.pointer (some ⟨w.heap.size, 0, none⟩)] trivial (enters_of Tryz.func144 (by kernel_rfl) rfl) _ _ hmax hbytes _ hseq
end Go.Proofs

