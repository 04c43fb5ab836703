/- A copy of a state, the document's. -/
import Derived.Test.YtfahepeemodcbaaN3
namespace Go.Proofs.Ytfahepeemodcbaa
open Go.RowKit Go.Maps
set_option linter.unusedSimpArgs false
set_option linter.unusedVariables false
set_option maxRecDepth 100000

set_option maxHeartbeats 6400000 in
theorem rclone_any {w : World} {v : Value} {p : Pt} (h : PartM w v p) : Calls Try.prog 60 #[v] w fun e w' => ∃ v', e = .returned v' ∧ PartM w' v' p ∧ InP (fun b => w.heap.size ≤ b) v' p ∧ Below w.heap.size w w' := by
  obtain ⟨id, ld, ep, vr, isr, reps, add, rem, mn⟩ := p
  obtain ⟨a1, c1, a2, c2, a3, c3, a4, c4, rfl, q1, q2, q3, q4, i0, i1, i2, i3, i4⟩ := h.open
  simp only at q1 q2 q3 q4 i0 i1 i2 i3 i4 ⊢
  have Q1 := hid q1
  have Q2 := hid q2
  have Q3 := hid q3
  have Q4 := hid q4
  clear h q1 q2 q3 q4
  have HI : Hid (I64 id ∧ I64 ld ∧ I64 ep ∧ I64 vr ∧ I64 mn) := ⟨i0, i1, i2, i3, i4⟩
  have HT0 := hid (two_new w #[.int .i64 id, .int .i64 ld, .int .i64 ep, .int .i64 vr, .slice a1 isr.length c1, .slice a2 reps.length c2, .slice a3 add.length c3, .slice a4 rem.length c4, .int .i64 mn] #[.int .i64 0, .int .i64 0, .int .i64 0, .int .i64 0, .slice none 0 0, .slice none 0 0, .slice none 0 0, .slice none 0 0, .int .i64 0])
  have G1 : Hid (∀ W cs zs, TwoB w W cs zs → Calls Try.prog 65 #[.slice a1 isr.length c1] W fun e w' => ∃ a c, e = .returned (.slice a isr.length c) ∧ IA w w' (.slice a isr.length c) isr ∧ TwoB w w' cs zs ∧ Below W.heap.size W w' ∧ In (fun b => w.heap.size ≤ b) (.slice a isr.length c) isr) := fun W cs zs hb => (rcopied_any (Q1.out.under hb.b)).mono fun e w' ⟨v', e1, e2, e4, e3⟩ => by obtain ⟨x, y, rfl, _⟩ := e2.shape; exact ⟨x, y, e1, ia_new e2 e4 hb.s, hb.next e3, e3, e4.mono fun b hx => Nat.le_trans hb.b.size hx⟩
  have G2 : Hid (∀ W cs zs, TwoB w W cs zs → Calls Try.prog 65 #[.slice a2 reps.length c2] W fun e w' => ∃ a c, e = .returned (.slice a reps.length c) ∧ IA w w' (.slice a reps.length c) reps ∧ TwoB w w' cs zs ∧ Below W.heap.size W w' ∧ In (fun b => w.heap.size ≤ b) (.slice a reps.length c) reps) := fun W cs zs hb => (rcopied_any (Q2.out.under hb.b)).mono fun e w' ⟨v', e1, e2, e4, e3⟩ => by obtain ⟨x, y, rfl, _⟩ := e2.shape; exact ⟨x, y, e1, ia_new e2 e4 hb.s, hb.next e3, e3, e4.mono fun b hx => Nat.le_trans hb.b.size hx⟩
  have G3 : Hid (∀ W cs zs, TwoB w W cs zs → Calls Try.prog 65 #[.slice a3 add.length c3] W fun e w' => ∃ a c, e = .returned (.slice a add.length c) ∧ IA w w' (.slice a add.length c) add ∧ TwoB w w' cs zs ∧ Below W.heap.size W w' ∧ In (fun b => w.heap.size ≤ b) (.slice a add.length c) add) := fun W cs zs hb => (rcopied_any (Q3.out.under hb.b)).mono fun e w' ⟨v', e1, e2, e4, e3⟩ => by obtain ⟨x, y, rfl, _⟩ := e2.shape; exact ⟨x, y, e1, ia_new e2 e4 hb.s, hb.next e3, e3, e4.mono fun b hx => Nat.le_trans hb.b.size hx⟩
  have G4 : Hid (∀ W cs zs, TwoB w W cs zs → Calls Try.prog 65 #[.slice a4 rem.length c4] W fun e w' => ∃ a c, e = .returned (.slice a rem.length c) ∧ IA w w' (.slice a rem.length c) rem ∧ TwoB w w' cs zs ∧ Below W.heap.size W w' ∧ In (fun b => w.heap.size ≤ b) (.slice a rem.length c) rem) := fun W cs zs hb => (rcopied_any (Q4.out.under hb.b)).mono fun e w' ⟨v', e1, e2, e4, e3⟩ => by obtain ⟨x, y, rfl, _⟩ := e2.shape; exact ⟨x, y, e1, ia_new e2 e4 hb.s, hb.next e3, e3, e4.mono fun b hx => Nat.le_trans hb.b.size hx⟩
  clear i0 i1 i2 i3 i4 Q1 Q2 Q3 Q4
  go_enter Try.func60, Try.ntmps60
  go_wp2_with fail
  generalize (w.alloc (.cells #[.int .i64 id, .int .i64 ld, .int .i64 ep, .int .i64 vr, .slice a1 isr.length c1, .slice a2 reps.length c2, .slice a3 add.length c3, .slice a4 rem.length c4, .int .i64 mn] 24)).alloc (.cells #[.int .i64 0, .int .i64 0, .int .i64 0, .int .i64 0, .slice none 0 0, .slice none 0 0, .slice none 0 0, .slice none 0 0, .int .i64 0] 24) = W0 at *
  refine (G1.out _ _ _ HT0.out).mono ?_
  rintro e V1 ⟨x1, y1, rfl, il, t1, b1, n1⟩
  have HV1 := hid t1
  have HL1 := hid il
  have HN1 := hid n1
  clear il t1 b1 n1
  have k0 := cell_blk HV1.out.x 0 _ rfl
  have k1 := cell_blk HV1.out.x 1 _ rfl
  have k2 := cell_blk HV1.out.x 2 _ rfl
  have k3 := cell_blk HV1.out.x 3 _ rfl
  have k4 := cell_blk HV1.out.x 4 _ rfl
  have k5 := cell_blk HV1.out.x 5 _ rfl
  have k6 := cell_blk HV1.out.x 6 _ rfl
  have k7 := cell_blk HV1.out.x 7 _ rfl
  have k8 := cell_blk HV1.out.x 8 _ rfl
  have fx := frz_blk HV1.out.x
  go_upto_region 2 with fail
  have HT1 : Hid (TwoB w (V1.setCell ⟨w.heap.size, 4, none⟩ (.slice x1 isr.length y1)) #[.int .i64 id, .int .i64 ld, .int .i64 ep, .int .i64 vr, .slice x1 isr.length y1, .slice a2 reps.length c2, .slice a3 add.length c3, .slice a4 rem.length c4, .int .i64 mn] #[.int .i64 0, .int .i64 0, .int .i64 0, .int .i64 0, .slice none 0 0, .slice none 0 0, .slice none 0 0, .slice none 0 0, .int .i64 0]) := HV1.out.setx 4 _
  have HLa1 := hid (HL1.out.set (.inl rfl) 4 (.slice x1 isr.length y1))
  clear HL1
  have HL1 := hid HLa1.out
  clear HLa1
  clear k0 k1 k2 k3 k4 k5 k6 k7 k8 fx HV1
  generalize V1.setCell ⟨w.heap.size, 4, none⟩ (.slice x1 isr.length y1) = W1 at *
  have k := cell_blk HT1.out.x 5 _ rfl
  go_wp2_with fail
  clear k
  refine (G2.out _ _ _ HT1.out).mono ?_
  rintro e V2 ⟨x2, y2, rfl, il, t1, b1, n1⟩
  have HV2 := hid t1
  have HLa1 := hid (HL1.out.under b1)
  clear HL1
  have HL1 := hid HLa1.out
  clear HLa1
  have HL2 := hid il
  have HN2 := hid n1
  clear il t1 b1 n1
  have k0 := cell_blk HV2.out.x 0 _ rfl
  have k1 := cell_blk HV2.out.x 1 _ rfl
  have k2 := cell_blk HV2.out.x 2 _ rfl
  have k3 := cell_blk HV2.out.x 3 _ rfl
  have k4 := cell_blk HV2.out.x 4 _ rfl
  have k5 := cell_blk HV2.out.x 5 _ rfl
  have k6 := cell_blk HV2.out.x 6 _ rfl
  have k7 := cell_blk HV2.out.x 7 _ rfl
  have k8 := cell_blk HV2.out.x 8 _ rfl
  have fx := frz_blk HV2.out.x
  go_upto_region 3 with fail
  have HT2 : Hid (TwoB w (V2.setCell ⟨w.heap.size, 5, none⟩ (.slice x2 reps.length y2)) #[.int .i64 id, .int .i64 ld, .int .i64 ep, .int .i64 vr, .slice x1 isr.length y1, .slice x2 reps.length y2, .slice a3 add.length c3, .slice a4 rem.length c4, .int .i64 mn] #[.int .i64 0, .int .i64 0, .int .i64 0, .int .i64 0, .slice none 0 0, .slice none 0 0, .slice none 0 0, .slice none 0 0, .int .i64 0]) := HV2.out.setx 5 _
  have HLa1 := hid (HL1.out.set (.inl rfl) 5 (.slice x2 reps.length y2))
  clear HL1
  have HL1 := hid HLa1.out
  clear HLa1
  have HLa2 := hid (HL2.out.set (.inl rfl) 5 (.slice x2 reps.length y2))
  clear HL2
  have HL2 := hid HLa2.out
  clear HLa2
  clear k0 k1 k2 k3 k4 k5 k6 k7 k8 fx HV2
  generalize V2.setCell ⟨w.heap.size, 5, none⟩ (.slice x2 reps.length y2) = W2 at *
  have k := cell_blk HT2.out.x 6 _ rfl
  go_wp2_with fail
  clear k
  refine (G3.out _ _ _ HT2.out).mono ?_
  rintro e V3 ⟨x3, y3, rfl, il, t1, b1, n1⟩
  have HV3 := hid t1
  have HLa1 := hid (HL1.out.under b1)
  clear HL1
  have HL1 := hid HLa1.out
  clear HLa1
  have HLa2 := hid (HL2.out.under b1)
  clear HL2
  have HL2 := hid HLa2.out
  clear HLa2
  have HL3 := hid il
  have HN3 := hid n1
  clear il t1 b1 n1
  have k0 := cell_blk HV3.out.x 0 _ rfl
  have k1 := cell_blk HV3.out.x 1 _ rfl
  have k2 := cell_blk HV3.out.x 2 _ rfl
  have k3 := cell_blk HV3.out.x 3 _ rfl
  have k4 := cell_blk HV3.out.x 4 _ rfl
  have k5 := cell_blk HV3.out.x 5 _ rfl
  have k6 := cell_blk HV3.out.x 6 _ rfl
  have k7 := cell_blk HV3.out.x 7 _ rfl
  have k8 := cell_blk HV3.out.x 8 _ rfl
  have fx := frz_blk HV3.out.x
  go_upto_region 4 with fail
  have HT3 : Hid (TwoB w (V3.setCell ⟨w.heap.size, 6, none⟩ (.slice x3 add.length y3)) #[.int .i64 id, .int .i64 ld, .int .i64 ep, .int .i64 vr, .slice x1 isr.length y1, .slice x2 reps.length y2, .slice x3 add.length y3, .slice a4 rem.length c4, .int .i64 mn] #[.int .i64 0, .int .i64 0, .int .i64 0, .int .i64 0, .slice none 0 0, .slice none 0 0, .slice none 0 0, .slice none 0 0, .int .i64 0]) := HV3.out.setx 6 _
  have HLa1 := hid (HL1.out.set (.inl rfl) 6 (.slice x3 add.length y3))
  clear HL1
  have HL1 := hid HLa1.out
  clear HLa1
  have HLa2 := hid (HL2.out.set (.inl rfl) 6 (.slice x3 add.length y3))
  clear HL2
  have HL2 := hid HLa2.out
  clear HLa2
  have HLa3 := hid (HL3.out.set (.inl rfl) 6 (.slice x3 add.length y3))
  clear HL3
  have HL3 := hid HLa3.out
  clear HLa3
  clear k0 k1 k2 k3 k4 k5 k6 k7 k8 fx HV3
  generalize V3.setCell ⟨w.heap.size, 6, none⟩ (.slice x3 add.length y3) = W3 at *
  have k := cell_blk HT3.out.x 7 _ rfl
  go_wp2_with fail
  clear k
  refine (G4.out _ _ _ HT3.out).mono ?_
  rintro e V4 ⟨x4, y4, rfl, il, t1, b1, n1⟩
  have HV4 := hid t1
  have HLa1 := hid (HL1.out.under b1)
  clear HL1
  have HL1 := hid HLa1.out
  clear HLa1
  have HLa2 := hid (HL2.out.under b1)
  clear HL2
  have HL2 := hid HLa2.out
  clear HLa2
  have HLa3 := hid (HL3.out.under b1)
  clear HL3
  have HL3 := hid HLa3.out
  clear HLa3
  have HL4 := hid il
  have HN4 := hid n1
  clear il t1 b1 n1
  have k0 := cell_blk HV4.out.x 0 _ rfl
  have k1 := cell_blk HV4.out.x 1 _ rfl
  have k2 := cell_blk HV4.out.x 2 _ rfl
  have k3 := cell_blk HV4.out.x 3 _ rfl
  have k4 := cell_blk HV4.out.x 4 _ rfl
  have k5 := cell_blk HV4.out.x 5 _ rfl
  have k6 := cell_blk HV4.out.x 6 _ rfl
  have k7 := cell_blk HV4.out.x 7 _ rfl
  have k8 := cell_blk HV4.out.x 8 _ rfl
  have fx := frz_blk HV4.out.x
  go_upto_region 5 with fail
  have HT4 : Hid (TwoB w (V4.setCell ⟨w.heap.size, 7, none⟩ (.slice x4 rem.length y4)) #[.int .i64 id, .int .i64 ld, .int .i64 ep, .int .i64 vr, .slice x1 isr.length y1, .slice x2 reps.length y2, .slice x3 add.length y3, .slice x4 rem.length y4, .int .i64 mn] #[.int .i64 0, .int .i64 0, .int .i64 0, .int .i64 0, .slice none 0 0, .slice none 0 0, .slice none 0 0, .slice none 0 0, .int .i64 0]) := HV4.out.setx 7 _
  have HLa1 := hid (HL1.out.set (.inl rfl) 7 (.slice x4 rem.length y4))
  clear HL1
  have HL1 := hid HLa1.out
  clear HLa1
  have HLa2 := hid (HL2.out.set (.inl rfl) 7 (.slice x4 rem.length y4))
  clear HL2
  have HL2 := hid HLa2.out
  clear HLa2
  have HLa3 := hid (HL3.out.set (.inl rfl) 7 (.slice x4 rem.length y4))
  clear HL3
  have HL3 := hid HLa3.out
  clear HLa3
  have HLa4 := hid (HL4.out.set (.inl rfl) 7 (.slice x4 rem.length y4))
  clear HL4
  have HL4 := hid HLa4.out
  clear HLa4
  clear k0 k1 k2 k3 k4 k5 k6 k7 k8 fx HV4
  generalize V4.setCell ⟨w.heap.size, 7, none⟩ (.slice x4 rem.length y4) = W4 at *
  have k0 := cell_blk HT4.out.x 0 _ rfl
  have k1 := cell_blk HT4.out.x 1 _ rfl
  have k2 := cell_blk HT4.out.x 2 _ rfl
  have k3 := cell_blk HT4.out.x 3 _ rfl
  have k4 := cell_blk HT4.out.x 4 _ rfl
  have k5 := cell_blk HT4.out.x 5 _ rfl
  have k6 := cell_blk HT4.out.x 6 _ rfl
  have k7 := cell_blk HT4.out.x 7 _ rfl
  have k8 := cell_blk HT4.out.x 8 _ rfl
  have z0 := cell_blk HT4.out.z 0 _ rfl
  have z1 := cell_blk HT4.out.z 1 _ rfl
  have z2 := cell_blk HT4.out.z 2 _ rfl
  have z3 := cell_blk HT4.out.z 3 _ rfl
  have z4 := cell_blk HT4.out.z 4 _ rfl
  have z5 := cell_blk HT4.out.z 5 _ rfl
  have z6 := cell_blk HT4.out.z 6 _ rfl
  have z7 := cell_blk HT4.out.z 7 _ rfl
  have z8 := cell_blk HT4.out.z 8 _ rfl
  have fx := frz_blk HT4.out.x
  have fz := frz_blk HT4.out.z
  go_wp2_with fail
  obtain ⟨hoff, hsz9⟩ := nine_off W4 (w.heap.size + 1) (.int .i64 id) (.int .i64 ld) (.int .i64 ep) (.int .i64 vr) (.slice x1 isr.length y1) (.slice x2 reps.length y2) (.slice x3 add.length y3) (.slice x4 rem.length y4) (.int .i64 mn)
  have HT9 := hid (nine_z HT4.out rfl (.int .i64 id) (.int .i64 ld) (.int .i64 ep) (.int .i64 vr) (.slice x1 isr.length y1) (.slice x2 reps.length y2) (.slice x3 add.length y3) (.slice x4 rem.length y4) (.int .i64 mn))
  have HOFF := hid hoff
  clear hoff k0 k1 k2 k3 k4 k5 k6 k7 k8 z0 z1 z2 z3 z4 z5 z6 z7 z8 fx fz
  generalize (((((((((W4.setCell ⟨w.heap.size + 1, 0, none⟩ (.int .i64 id)).setCell ⟨w.heap.size + 1, 1, none⟩ (.int .i64 ld)).setCell ⟨w.heap.size + 1, 2, none⟩ (.int .i64 ep)).setCell ⟨w.heap.size + 1, 3, none⟩ (.int .i64 vr)).setCell ⟨w.heap.size + 1, 4, none⟩ (.slice x1 isr.length y1)).setCell ⟨w.heap.size + 1, 5, none⟩ (.slice x2 reps.length y2)).setCell ⟨w.heap.size + 1, 6, none⟩ (.slice x3 add.length y3)).setCell ⟨w.heap.size + 1, 7, none⟩ (.slice x4 rem.length y4)).setCell ⟨w.heap.size + 1, 8, none⟩ (.int .i64 mn)) = W9 at *
  have r0 := cell_blk HT9.out.z 0 _ rfl
  have r1 := cell_blk HT9.out.z 1 _ rfl
  have r2 := cell_blk HT9.out.z 2 _ rfl
  have r3 := cell_blk HT9.out.z 3 _ rfl
  have r4 := cell_blk HT9.out.z 4 _ rfl
  have r5 := cell_blk HT9.out.z 5 _ rfl
  have r6 := cell_blk HT9.out.z 6 _ rfl
  have r7 := cell_blk HT9.out.z 7 _ rfl
  have r8 := cell_blk HT9.out.z 8 _ rfl
  exact bodyPost_ret (v := .agg #[.int .i64 id, .int .i64 ld, .int .i64 ep, .int .i64 vr, .slice x1 isr.length y1, .slice x2 reps.length y2, .slice x3 add.length y3, .slice x4 rem.length y4, .int .i64 mn]) (by simp [results, Try.results60, go_sem, r0, r1, r2, r3, r4, r5, r6, r7, r8]) rfl ⟨_, rfl, ⟨_, _, _, _, rfl, HL1.out.offz HOFF.out hsz9, HL2.out.offz HOFF.out hsz9, HL3.out.offz HOFF.out hsz9, HL4.out.offz HOFF.out hsz9, HI.out⟩, inP_of HN1.out HN2.out HN3.out HN4.out, HT9.out.b⟩
end Go.Proofs.Ytfahepeemodcbaa
