/- A call of a script; did. -/
import Derived.Test.YtfahepeemodcbaaM15
namespace Go.Proofs.Ytfahepeemodcbaa
open Go.RowKit Go.Maps
set_option linter.unusedSimpArgs false
set_option linter.unusedVariables false
set_option maxRecDepth 100000

/-- A call. -/
structure Opn where
  kind : Int
  a : Int
  b : Int
  c : Int
  l : List Int
  up : List Int
def OpM (w : World) (v : Value) (o : Opn) : Prop := ∃ x y, v = .agg #[.int .i64 o.kind, .int .i64 o.a, .int .i64 o.b, .int .i64 o.c, x, y] ∧ IL w x o.l ∧ IL w y o.up ∧ I64 o.kind ∧ I64 o.a ∧ I64 o.b ∧ I64 o.c
theorem OpM.under {w w' : World} {v : Value} {o : Opn} (h : OpM w v o) (hb : Below w.heap.size w w') : OpM w' v o := by
  obtain ⟨x, y, e, h1, h2, h3⟩ := h
  exact ⟨x, y, e, h1.under hb, h2.under hb, h3⟩
def didP (p : Pt) (o : Opn) : Pt × Int :=
  if pickI o.kind 7 = 0 then electP p o.a else if pickI o.kind 7 = 1 then fenceP p o.a o.up else if pickI o.kind 7 = 2 then backP p o.a else if pickI o.kind 7 = 3 then alterP p o.a o.b o.c o.l o.up
  else if pickI o.kind 7 = 4 then beginP p o.l o.up else if pickI o.kind 7 = 6 then finishP p o.up else cancelP p o.up
/-- Three boxes at a world's end. -/
structure Tri (w W : World) (cs os zs : Array Value) : Prop where
  x : W.heap[w.heap.size]? = some (.cells cs 24)
  o : W.heap[w.heap.size + 1]? = some (.cells os 26)
  z : W.heap[w.heap.size + 2]? = some (.cells zs 24)
  b : Below w.heap.size w W
theorem tri_new (w : World) (cs os zs : Array Value) : Tri w (((w.alloc (.cells cs 24)).alloc (.cells os 26)).alloc (.cells zs 24)) cs os zs := by
  refine ⟨?_, ?_, ?_, (((Below.refl _ _).alloc (Nat.le_refl _) _).alloc (by simp) _).alloc (by simp; omega) _⟩
  · rw [Below.heap_alloc _ _ _ (by simp; omega), Below.heap_alloc _ _ _ (by simp)]; exact heap_alloc_new _ _
  · have := heap_alloc_new (w.alloc (.cells cs 24)) (.cells os 26)
    rw [show (w.alloc (.cells cs 24)).heap.size = w.heap.size + 1 by simp] at this
    rw [Below.heap_alloc _ _ _ (by simp)]; exact this
  · have := heap_alloc_new ((w.alloc (.cells cs 24)).alloc (.cells os 26)) (.cells zs 24)
    rw [show ((w.alloc (.cells cs 24)).alloc (.cells os 26)).heap.size = w.heap.size + 2 by simp] at this
    exact this
theorem Tri.next {w W W' : World} {cs os zs : Array Value} (h : Tri w W cs os zs) (hb : Below W.heap.size W W') : Tri w W' cs os zs := ⟨blk_under h.x hb, blk_under h.o hb, blk_under h.z hb, h.b.trans (hb.mono h.b.size)⟩
set_option maxHeartbeats 12800000 in
theorem did_any {w : World} {v ov : Value} {p : Pt} {o : Opn} (h : PartM w v p) (ho : OpM w ov o) : Calls Try.prog 17 #[v, ov] w fun e w' => Res (fun b => w.heap.size ≤ b) w (didP p o) e w' := by
  obtain ⟨id, ld, ep, vr, isr, reps, add, rem, mn⟩ := p
  obtain ⟨a1, c1, a2, c2, a3, c3, a4, c4, rfl, q1, q2, q3, q4, i0, i1, i2, i3, i4⟩ := h.open
  simp only at q1 q2 q3 q4 i0 i1 i2 i3 i4 ⊢
  have Q1 := hid q1
  have Q2 := hid q2
  have Q3 := hid q3
  have Q4 := hid q4
  clear h q1 q2 q3 q4
  obtain ⟨ok, oa, ob, oc, ol, ou⟩ := o
  obtain ⟨lv, uv, rfl, hl, hu, j0, j1, j2, j3⟩ := ho
  simp only at hl hu j0 j1 j2 j3
  obtain ⟨la, lc, rfl, _⟩ := hl.shape
  obtain ⟨ua, uc, rfl, _⟩ := hu.shape
  have QL := hid hl
  have QU := hid hu
  have HT0 := hid (tri_new w #[.int .i64 id, .int .i64 ld, .int .i64 ep, .int .i64 vr, .slice a1 isr.length c1, .slice a2 reps.length c2, .slice a3 add.length c3, .slice a4 rem.length c4, .int .i64 mn] #[.int .i64 ok, .int .i64 oa, .int .i64 ob, .int .i64 oc, .slice la ol.length lc, .slice ua ou.length uc] #[.int .i64 0, .int .i64 0, .int .i64 0, .int .i64 0, .slice none 0 0, .slice none 0 0, .slice none 0 0, .slice none 0 0, .int .i64 0])
  have HP : Hid (∀ W, Below w.heap.size w W → PartM W (.agg #[.int .i64 id, .int .i64 ld, .int .i64 ep, .int .i64 vr, .slice a1 isr.length c1, .slice a2 reps.length c2, .slice a3 add.length c3, .slice a4 rem.length c4, .int .i64 mn]) ⟨id, ld, ep, vr, isr, reps, add, rem, mn⟩) := fun W hb => ⟨_, _, _, _, rfl, Q1.out.under hb, Q2.out.under hb, Q3.out.under hb, Q4.out.under hb, i0, i1, i2, i3, i4⟩
  have HD : Hid (didP ⟨id, ld, ep, vr, isr, reps, add, rem, mn⟩ ⟨ok, oa, ob, oc, ol, ou⟩ = if pickI ok 7 = 0 then electP ⟨id, ld, ep, vr, isr, reps, add, rem, mn⟩ oa else if pickI ok 7 = 1 then fenceP ⟨id, ld, ep, vr, isr, reps, add, rem, mn⟩ oa ou else if pickI ok 7 = 2 then backP ⟨id, ld, ep, vr, isr, reps, add, rem, mn⟩ oa else if pickI ok 7 = 3 then alterP ⟨id, ld, ep, vr, isr, reps, add, rem, mn⟩ oa ob oc ol ou else if pickI ok 7 = 4 then beginP ⟨id, ld, ep, vr, isr, reps, add, rem, mn⟩ ol ou else if pickI ok 7 = 6 then finishP ⟨id, ld, ep, vr, isr, reps, add, rem, mn⟩ ou else cancelP ⟨id, ld, ep, vr, isr, reps, add, rem, mn⟩ ou) := rfl
  have G16 := hid (fun W => pick_any ok 7 W j0 (by omega) (by omega))
  obtain ⟨hk1, hk2⟩ := pickI_range ok 7 (by omega)
  generalize didP ⟨id, ld, ep, vr, isr, reps, add, rem, mn⟩ ⟨ok, oa, ob, oc, ol, ou⟩ = r at *
  generalize pickI ok 7 = K at *
  obtain ⟨⟨rid, rld, rep, rvr, rl1, rl2, rl3, rl4, rmn⟩, re⟩ := r
  clear hl hu i0 i1 i2 i3 i4 Q1 Q2 Q3 Q4
  have hK : K = 0 ∨ K = 1 ∨ K = 2 ∨ K = 3 ∨ K = 4 ∨ K = 5 ∨ K = 6 := by omega
  clear hk1 hk2
  go_enter Try.func17, Try.ntmps17
  go_wp2_with fail
  generalize ((w.alloc (.cells #[.int .i64 id, .int .i64 ld, .int .i64 ep, .int .i64 vr, .slice a1 isr.length c1, .slice a2 reps.length c2, .slice a3 add.length c3, .slice a4 rem.length c4, .int .i64 mn] 24)).alloc (.cells #[.int .i64 ok, .int .i64 oa, .int .i64 ob, .int .i64 oc, .slice la ol.length lc, .slice ua ou.length uc] 26)).alloc (.cells #[.int .i64 0, .int .i64 0, .int .i64 0, .int .i64 0, .slice none 0 0, .slice none 0 0, .slice none 0 0, .slice none 0 0, .int .i64 0] 24) = W0 at *
  refine (G16.out _).mono ?_
  rintro e W1 ⟨rfl, rfl⟩
  have k0 := cell_blk HT0.out.x 0 _ rfl
  have k1 := cell_blk HT0.out.x 1 _ rfl
  have k2 := cell_blk HT0.out.x 2 _ rfl
  have k3 := cell_blk HT0.out.x 3 _ rfl
  have k4 := cell_blk HT0.out.x 4 _ rfl
  have k5 := cell_blk HT0.out.x 5 _ rfl
  have k6 := cell_blk HT0.out.x 6 _ rfl
  have k7 := cell_blk HT0.out.x 7 _ rfl
  have k8 := cell_blk HT0.out.x 8 _ rfl
  have m0 := cell_blk HT0.out.o 0 _ rfl
  have m1 := cell_blk HT0.out.o 1 _ rfl
  have m2 := cell_blk HT0.out.o 2 _ rfl
  have m3 := cell_blk HT0.out.o 3 _ rfl
  have m4 := cell_blk HT0.out.o 4 _ rfl
  have m5 := cell_blk HT0.out.o 5 _ rfl
  rcases hK with rfl | rfl | rfl | rfl | rfl | rfl | rfl
  · have GC := hid (elect_any (HP.out W0 HT0.out.b) oa j1)
    have HDK : Hid (_ = _) := HD.out
    simp at HDK
    rw [← HDK.out] at GC
    clear HD HDK
    go_wp2_with fail
    refine GC.out.mono ?_
    rintro e W2 ⟨v', rfl, h1, h2, hb⟩
    have HSZ : Hid (w.heap.size + 2 < W0.heap.size) := lt_blk HT0.out.z
    have HI2 := hid (h2.mono (Y := fun b => b ≠ w.heap.size + 2) fun b hx => by have := HSZ.out; omega)
    have HI3 := hid (h2.mono (Y := fun b => w.heap.size ≤ b) fun b hx => by have := HSZ.out; omega)
    obtain ⟨x1, y1, x2, y2, x3, y3, x4, y4, rfl, _⟩ := h1.open
    have H1 : Hid (PartM W2 (.agg #[.int .i64 rid, .int .i64 rld, .int .i64 rep, .int .i64 rvr, .slice x1 rl1.length y1, .slice x2 rl2.length y2, .slice x3 rl3.length y3, .slice x4 rl4.length y4, .int .i64 rmn]) ⟨rid, rld, rep, rvr, rl1, rl2, rl3, rl4, rmn⟩) := h1
    have HI4 : Hid (InP (fun b => b ≠ w.heap.size + 2) (.agg #[.int .i64 rid, .int .i64 rld, .int .i64 rep, .int .i64 rvr, .slice x1 rl1.length y1, .slice x2 rl2.length y2, .slice x3 rl3.length y3, .slice x4 rl4.length y4, .int .i64 rmn]) ⟨rid, rld, rep, rvr, rl1, rl2, rl3, rl4, rmn⟩) := HI2.out
    have HI5 : Hid (InP (fun b => w.heap.size ≤ b) (.agg #[.int .i64 rid, .int .i64 rld, .int .i64 rep, .int .i64 rvr, .slice x1 rl1.length y1, .slice x2 rl2.length y2, .slice x3 rl3.length y3, .slice x4 rl4.length y4, .int .i64 rmn]) ⟨rid, rld, rep, rvr, rl1, rl2, rl3, rl4, rmn⟩) := HI3.out
    have HT2 := hid (HT0.out.next hb)
    clear h1 h2 hb HI2 HI3 k0 k1 k2 k3 k4 k5 k6 k7 k8 m0 m1 m2 m3 m4 m5
    have z0 := cell_blk HT2.out.z 0 _ rfl
    have z1 := cell_blk HT2.out.z 1 _ rfl
    have z2 := cell_blk HT2.out.z 2 _ rfl
    have z3 := cell_blk HT2.out.z 3 _ rfl
    have z4 := cell_blk HT2.out.z 4 _ rfl
    have z5 := cell_blk HT2.out.z 5 _ rfl
    have z6 := cell_blk HT2.out.z 6 _ rfl
    have z7 := cell_blk HT2.out.z 7 _ rfl
    have z8 := cell_blk HT2.out.z 8 _ rfl
    have fz := frz_blk HT2.out.z
    go_wp2_with fail
    obtain ⟨hoff, hsz9⟩ := nine_off W2 (w.heap.size + 2) (.int .i64 rid) (.int .i64 rld) (.int .i64 rep) (.int .i64 rvr) (.slice x1 rl1.length y1) (.slice x2 rl2.length y2) (.slice x3 rl3.length y3) (.slice x4 rl4.length y4) (.int .i64 rmn)
    have HZ9 := hid (nine_q HT2.out.z rfl (.int .i64 rid) (.int .i64 rld) (.int .i64 rep) (.int .i64 rvr) (.slice x1 rl1.length y1) (.slice x2 rl2.length y2) (.slice x3 rl3.length y3) (.slice x4 rl4.length y4) (.int .i64 rmn))
    have HB9 := hid (nine_below HT2.out.b (Nat.le_add_right _ 2) (.int .i64 rid) (.int .i64 rld) (.int .i64 rep) (.int .i64 rvr) (.slice x1 rl1.length y1) (.slice x2 rl2.length y2) (.slice x3 rl3.length y3) (.slice x4 rl4.length y4) (.int .i64 rmn))
    have HP9 := hid (H1.out.off HI4.out hoff hsz9)
    clear hoff hsz9 z0 z1 z2 z3 z4 z5 z6 z7 z8 fz
    generalize (((((((((W2.setCell ⟨w.heap.size + 2, 0, none⟩ (.int .i64 rid)).setCell ⟨w.heap.size + 2, 1, none⟩ (.int .i64 rld)).setCell ⟨w.heap.size + 2, 2, none⟩ (.int .i64 rep)).setCell ⟨w.heap.size + 2, 3, none⟩ (.int .i64 rvr)).setCell ⟨w.heap.size + 2, 4, none⟩ (.slice x1 rl1.length y1)).setCell ⟨w.heap.size + 2, 5, none⟩ (.slice x2 rl2.length y2)).setCell ⟨w.heap.size + 2, 6, none⟩ (.slice x3 rl3.length y3)).setCell ⟨w.heap.size + 2, 7, none⟩ (.slice x4 rl4.length y4)).setCell ⟨w.heap.size + 2, 8, none⟩ (.int .i64 rmn)) = W9 at *
    have r0 := cell_blk HZ9.out 0 _ rfl
    have r1 := cell_blk HZ9.out 1 _ rfl
    have r2 := cell_blk HZ9.out 2 _ rfl
    have r3 := cell_blk HZ9.out 3 _ rfl
    have r4 := cell_blk HZ9.out 4 _ rfl
    have r5 := cell_blk HZ9.out 5 _ rfl
    have r6 := cell_blk HZ9.out 6 _ rfl
    have r7 := cell_blk HZ9.out 7 _ rfl
    have r8 := cell_blk HZ9.out 8 _ rfl
    exact bodyPost_ret (v := .tuple #[.agg #[.int .i64 rid, .int .i64 rld, .int .i64 rep, .int .i64 rvr, .slice x1 rl1.length y1, .slice x2 rl2.length y2, .slice x3 rl3.length y3, .slice x4 rl4.length y4, .int .i64 rmn], .int .i64 re]) (by simp [results, Try.results17, go_sem, r0, r1, r2, r3, r4, r5, r6, r7, r8]) rfl ⟨_, rfl, HP9.out, HI5.out, HB9.out⟩
  · have GC := hid (fence_any (HP.out W0 HT0.out.b) oa j1 (QU.out.under HT0.out.b))
    have HDK : Hid (_ = _) := HD.out
    simp at HDK
    rw [← HDK.out] at GC
    clear HD HDK
    go_wp2_with fail
    refine GC.out.mono ?_
    rintro e W2 ⟨v', rfl, h1, h2, hb⟩
    have HSZ : Hid (w.heap.size + 2 < W0.heap.size) := lt_blk HT0.out.z
    have HI2 := hid (h2.mono (Y := fun b => b ≠ w.heap.size + 2) fun b hx => by have := HSZ.out; omega)
    have HI3 := hid (h2.mono (Y := fun b => w.heap.size ≤ b) fun b hx => by have := HSZ.out; omega)
    obtain ⟨x1, y1, x2, y2, x3, y3, x4, y4, rfl, _⟩ := h1.open
    have H1 : Hid (PartM W2 (.agg #[.int .i64 rid, .int .i64 rld, .int .i64 rep, .int .i64 rvr, .slice x1 rl1.length y1, .slice x2 rl2.length y2, .slice x3 rl3.length y3, .slice x4 rl4.length y4, .int .i64 rmn]) ⟨rid, rld, rep, rvr, rl1, rl2, rl3, rl4, rmn⟩) := h1
    have HI4 : Hid (InP (fun b => b ≠ w.heap.size + 2) (.agg #[.int .i64 rid, .int .i64 rld, .int .i64 rep, .int .i64 rvr, .slice x1 rl1.length y1, .slice x2 rl2.length y2, .slice x3 rl3.length y3, .slice x4 rl4.length y4, .int .i64 rmn]) ⟨rid, rld, rep, rvr, rl1, rl2, rl3, rl4, rmn⟩) := HI2.out
    have HI5 : Hid (InP (fun b => w.heap.size ≤ b) (.agg #[.int .i64 rid, .int .i64 rld, .int .i64 rep, .int .i64 rvr, .slice x1 rl1.length y1, .slice x2 rl2.length y2, .slice x3 rl3.length y3, .slice x4 rl4.length y4, .int .i64 rmn]) ⟨rid, rld, rep, rvr, rl1, rl2, rl3, rl4, rmn⟩) := HI3.out
    have HT2 := hid (HT0.out.next hb)
    clear h1 h2 hb HI2 HI3 k0 k1 k2 k3 k4 k5 k6 k7 k8 m0 m1 m2 m3 m4 m5
    have z0 := cell_blk HT2.out.z 0 _ rfl
    have z1 := cell_blk HT2.out.z 1 _ rfl
    have z2 := cell_blk HT2.out.z 2 _ rfl
    have z3 := cell_blk HT2.out.z 3 _ rfl
    have z4 := cell_blk HT2.out.z 4 _ rfl
    have z5 := cell_blk HT2.out.z 5 _ rfl
    have z6 := cell_blk HT2.out.z 6 _ rfl
    have z7 := cell_blk HT2.out.z 7 _ rfl
    have z8 := cell_blk HT2.out.z 8 _ rfl
    have fz := frz_blk HT2.out.z
    go_wp2_with fail
    obtain ⟨hoff, hsz9⟩ := nine_off W2 (w.heap.size + 2) (.int .i64 rid) (.int .i64 rld) (.int .i64 rep) (.int .i64 rvr) (.slice x1 rl1.length y1) (.slice x2 rl2.length y2) (.slice x3 rl3.length y3) (.slice x4 rl4.length y4) (.int .i64 rmn)
    have HZ9 := hid (nine_q HT2.out.z rfl (.int .i64 rid) (.int .i64 rld) (.int .i64 rep) (.int .i64 rvr) (.slice x1 rl1.length y1) (.slice x2 rl2.length y2) (.slice x3 rl3.length y3) (.slice x4 rl4.length y4) (.int .i64 rmn))
    have HB9 := hid (nine_below HT2.out.b (Nat.le_add_right _ 2) (.int .i64 rid) (.int .i64 rld) (.int .i64 rep) (.int .i64 rvr) (.slice x1 rl1.length y1) (.slice x2 rl2.length y2) (.slice x3 rl3.length y3) (.slice x4 rl4.length y4) (.int .i64 rmn))
    have HP9 := hid (H1.out.off HI4.out hoff hsz9)
    clear hoff hsz9 z0 z1 z2 z3 z4 z5 z6 z7 z8 fz
    generalize (((((((((W2.setCell ⟨w.heap.size + 2, 0, none⟩ (.int .i64 rid)).setCell ⟨w.heap.size + 2, 1, none⟩ (.int .i64 rld)).setCell ⟨w.heap.size + 2, 2, none⟩ (.int .i64 rep)).setCell ⟨w.heap.size + 2, 3, none⟩ (.int .i64 rvr)).setCell ⟨w.heap.size + 2, 4, none⟩ (.slice x1 rl1.length y1)).setCell ⟨w.heap.size + 2, 5, none⟩ (.slice x2 rl2.length y2)).setCell ⟨w.heap.size + 2, 6, none⟩ (.slice x3 rl3.length y3)).setCell ⟨w.heap.size + 2, 7, none⟩ (.slice x4 rl4.length y4)).setCell ⟨w.heap.size + 2, 8, none⟩ (.int .i64 rmn)) = W9 at *
    have r0 := cell_blk HZ9.out 0 _ rfl
    have r1 := cell_blk HZ9.out 1 _ rfl
    have r2 := cell_blk HZ9.out 2 _ rfl
    have r3 := cell_blk HZ9.out 3 _ rfl
    have r4 := cell_blk HZ9.out 4 _ rfl
    have r5 := cell_blk HZ9.out 5 _ rfl
    have r6 := cell_blk HZ9.out 6 _ rfl
    have r7 := cell_blk HZ9.out 7 _ rfl
    have r8 := cell_blk HZ9.out 8 _ rfl
    exact bodyPost_ret (v := .tuple #[.agg #[.int .i64 rid, .int .i64 rld, .int .i64 rep, .int .i64 rvr, .slice x1 rl1.length y1, .slice x2 rl2.length y2, .slice x3 rl3.length y3, .slice x4 rl4.length y4, .int .i64 rmn], .int .i64 re]) (by simp [results, Try.results17, go_sem, r0, r1, r2, r3, r4, r5, r6, r7, r8]) rfl ⟨_, rfl, HP9.out, HI5.out, HB9.out⟩
  · have GC := hid (back_any (HP.out W0 HT0.out.b) oa j1)
    have HDK : Hid (_ = _) := HD.out
    simp at HDK
    rw [← HDK.out] at GC
    clear HD HDK
    go_wp2_with fail
    refine GC.out.mono ?_
    rintro e W2 ⟨v', rfl, h1, h2, hb⟩
    have HSZ : Hid (w.heap.size + 2 < W0.heap.size) := lt_blk HT0.out.z
    have HI2 := hid (h2.mono (Y := fun b => b ≠ w.heap.size + 2) fun b hx => by have := HSZ.out; omega)
    have HI3 := hid (h2.mono (Y := fun b => w.heap.size ≤ b) fun b hx => by have := HSZ.out; omega)
    obtain ⟨x1, y1, x2, y2, x3, y3, x4, y4, rfl, _⟩ := h1.open
    have H1 : Hid (PartM W2 (.agg #[.int .i64 rid, .int .i64 rld, .int .i64 rep, .int .i64 rvr, .slice x1 rl1.length y1, .slice x2 rl2.length y2, .slice x3 rl3.length y3, .slice x4 rl4.length y4, .int .i64 rmn]) ⟨rid, rld, rep, rvr, rl1, rl2, rl3, rl4, rmn⟩) := h1
    have HI4 : Hid (InP (fun b => b ≠ w.heap.size + 2) (.agg #[.int .i64 rid, .int .i64 rld, .int .i64 rep, .int .i64 rvr, .slice x1 rl1.length y1, .slice x2 rl2.length y2, .slice x3 rl3.length y3, .slice x4 rl4.length y4, .int .i64 rmn]) ⟨rid, rld, rep, rvr, rl1, rl2, rl3, rl4, rmn⟩) := HI2.out
    have HI5 : Hid (InP (fun b => w.heap.size ≤ b) (.agg #[.int .i64 rid, .int .i64 rld, .int .i64 rep, .int .i64 rvr, .slice x1 rl1.length y1, .slice x2 rl2.length y2, .slice x3 rl3.length y3, .slice x4 rl4.length y4, .int .i64 rmn]) ⟨rid, rld, rep, rvr, rl1, rl2, rl3, rl4, rmn⟩) := HI3.out
    have HT2 := hid (HT0.out.next hb)
    clear h1 h2 hb HI2 HI3 k0 k1 k2 k3 k4 k5 k6 k7 k8 m0 m1 m2 m3 m4 m5
    have z0 := cell_blk HT2.out.z 0 _ rfl
    have z1 := cell_blk HT2.out.z 1 _ rfl
    have z2 := cell_blk HT2.out.z 2 _ rfl
    have z3 := cell_blk HT2.out.z 3 _ rfl
    have z4 := cell_blk HT2.out.z 4 _ rfl
    have z5 := cell_blk HT2.out.z 5 _ rfl
    have z6 := cell_blk HT2.out.z 6 _ rfl
    have z7 := cell_blk HT2.out.z 7 _ rfl
    have z8 := cell_blk HT2.out.z 8 _ rfl
    have fz := frz_blk HT2.out.z
    go_wp2_with fail
    obtain ⟨hoff, hsz9⟩ := nine_off W2 (w.heap.size + 2) (.int .i64 rid) (.int .i64 rld) (.int .i64 rep) (.int .i64 rvr) (.slice x1 rl1.length y1) (.slice x2 rl2.length y2) (.slice x3 rl3.length y3) (.slice x4 rl4.length y4) (.int .i64 rmn)
    have HZ9 := hid (nine_q HT2.out.z rfl (.int .i64 rid) (.int .i64 rld) (.int .i64 rep) (.int .i64 rvr) (.slice x1 rl1.length y1) (.slice x2 rl2.length y2) (.slice x3 rl3.length y3) (.slice x4 rl4.length y4) (.int .i64 rmn))
    have HB9 := hid (nine_below HT2.out.b (Nat.le_add_right _ 2) (.int .i64 rid) (.int .i64 rld) (.int .i64 rep) (.int .i64 rvr) (.slice x1 rl1.length y1) (.slice x2 rl2.length y2) (.slice x3 rl3.length y3) (.slice x4 rl4.length y4) (.int .i64 rmn))
    have HP9 := hid (H1.out.off HI4.out hoff hsz9)
    clear hoff hsz9 z0 z1 z2 z3 z4 z5 z6 z7 z8 fz
    generalize (((((((((W2.setCell ⟨w.heap.size + 2, 0, none⟩ (.int .i64 rid)).setCell ⟨w.heap.size + 2, 1, none⟩ (.int .i64 rld)).setCell ⟨w.heap.size + 2, 2, none⟩ (.int .i64 rep)).setCell ⟨w.heap.size + 2, 3, none⟩ (.int .i64 rvr)).setCell ⟨w.heap.size + 2, 4, none⟩ (.slice x1 rl1.length y1)).setCell ⟨w.heap.size + 2, 5, none⟩ (.slice x2 rl2.length y2)).setCell ⟨w.heap.size + 2, 6, none⟩ (.slice x3 rl3.length y3)).setCell ⟨w.heap.size + 2, 7, none⟩ (.slice x4 rl4.length y4)).setCell ⟨w.heap.size + 2, 8, none⟩ (.int .i64 rmn)) = W9 at *
    have r0 := cell_blk HZ9.out 0 _ rfl
    have r1 := cell_blk HZ9.out 1 _ rfl
    have r2 := cell_blk HZ9.out 2 _ rfl
    have r3 := cell_blk HZ9.out 3 _ rfl
    have r4 := cell_blk HZ9.out 4 _ rfl
    have r5 := cell_blk HZ9.out 5 _ rfl
    have r6 := cell_blk HZ9.out 6 _ rfl
    have r7 := cell_blk HZ9.out 7 _ rfl
    have r8 := cell_blk HZ9.out 8 _ rfl
    exact bodyPost_ret (v := .tuple #[.agg #[.int .i64 rid, .int .i64 rld, .int .i64 rep, .int .i64 rvr, .slice x1 rl1.length y1, .slice x2 rl2.length y2, .slice x3 rl3.length y3, .slice x4 rl4.length y4, .int .i64 rmn], .int .i64 re]) (by simp [results, Try.results17, go_sem, r0, r1, r2, r3, r4, r5, r6, r7, r8]) rfl ⟨_, rfl, HP9.out, HI5.out, HB9.out⟩
  · have GC := hid (alter_any (HP.out W0 HT0.out.b) oa ob oc j1 j2 j3 (QL.out.under HT0.out.b) (QU.out.under HT0.out.b))
    have HDK : Hid (_ = _) := HD.out
    simp at HDK
    rw [← HDK.out] at GC
    clear HD HDK
    go_wp2_with fail
    refine GC.out.mono ?_
    rintro e W2 ⟨v', rfl, h1, h2, hb⟩
    have HSZ : Hid (w.heap.size + 2 < W0.heap.size) := lt_blk HT0.out.z
    have HI2 := hid (h2.mono (Y := fun b => b ≠ w.heap.size + 2) fun b hx => by have := HSZ.out; omega)
    have HI3 := hid (h2.mono (Y := fun b => w.heap.size ≤ b) fun b hx => by have := HSZ.out; omega)
    obtain ⟨x1, y1, x2, y2, x3, y3, x4, y4, rfl, _⟩ := h1.open
    have H1 : Hid (PartM W2 (.agg #[.int .i64 rid, .int .i64 rld, .int .i64 rep, .int .i64 rvr, .slice x1 rl1.length y1, .slice x2 rl2.length y2, .slice x3 rl3.length y3, .slice x4 rl4.length y4, .int .i64 rmn]) ⟨rid, rld, rep, rvr, rl1, rl2, rl3, rl4, rmn⟩) := h1
    have HI4 : Hid (InP (fun b => b ≠ w.heap.size + 2) (.agg #[.int .i64 rid, .int .i64 rld, .int .i64 rep, .int .i64 rvr, .slice x1 rl1.length y1, .slice x2 rl2.length y2, .slice x3 rl3.length y3, .slice x4 rl4.length y4, .int .i64 rmn]) ⟨rid, rld, rep, rvr, rl1, rl2, rl3, rl4, rmn⟩) := HI2.out
    have HI5 : Hid (InP (fun b => w.heap.size ≤ b) (.agg #[.int .i64 rid, .int .i64 rld, .int .i64 rep, .int .i64 rvr, .slice x1 rl1.length y1, .slice x2 rl2.length y2, .slice x3 rl3.length y3, .slice x4 rl4.length y4, .int .i64 rmn]) ⟨rid, rld, rep, rvr, rl1, rl2, rl3, rl4, rmn⟩) := HI3.out
    have HT2 := hid (HT0.out.next hb)
    clear h1 h2 hb HI2 HI3 k0 k1 k2 k3 k4 k5 k6 k7 k8 m0 m1 m2 m3 m4 m5
    have z0 := cell_blk HT2.out.z 0 _ rfl
    have z1 := cell_blk HT2.out.z 1 _ rfl
    have z2 := cell_blk HT2.out.z 2 _ rfl
    have z3 := cell_blk HT2.out.z 3 _ rfl
    have z4 := cell_blk HT2.out.z 4 _ rfl
    have z5 := cell_blk HT2.out.z 5 _ rfl
    have z6 := cell_blk HT2.out.z 6 _ rfl
    have z7 := cell_blk HT2.out.z 7 _ rfl
    have z8 := cell_blk HT2.out.z 8 _ rfl
    have fz := frz_blk HT2.out.z
    go_wp2_with fail
    obtain ⟨hoff, hsz9⟩ := nine_off W2 (w.heap.size + 2) (.int .i64 rid) (.int .i64 rld) (.int .i64 rep) (.int .i64 rvr) (.slice x1 rl1.length y1) (.slice x2 rl2.length y2) (.slice x3 rl3.length y3) (.slice x4 rl4.length y4) (.int .i64 rmn)
    have HZ9 := hid (nine_q HT2.out.z rfl (.int .i64 rid) (.int .i64 rld) (.int .i64 rep) (.int .i64 rvr) (.slice x1 rl1.length y1) (.slice x2 rl2.length y2) (.slice x3 rl3.length y3) (.slice x4 rl4.length y4) (.int .i64 rmn))
    have HB9 := hid (nine_below HT2.out.b (Nat.le_add_right _ 2) (.int .i64 rid) (.int .i64 rld) (.int .i64 rep) (.int .i64 rvr) (.slice x1 rl1.length y1) (.slice x2 rl2.length y2) (.slice x3 rl3.length y3) (.slice x4 rl4.length y4) (.int .i64 rmn))
    have HP9 := hid (H1.out.off HI4.out hoff hsz9)
    clear hoff hsz9 z0 z1 z2 z3 z4 z5 z6 z7 z8 fz
    generalize (((((((((W2.setCell ⟨w.heap.size + 2, 0, none⟩ (.int .i64 rid)).setCell ⟨w.heap.size + 2, 1, none⟩ (.int .i64 rld)).setCell ⟨w.heap.size + 2, 2, none⟩ (.int .i64 rep)).setCell ⟨w.heap.size + 2, 3, none⟩ (.int .i64 rvr)).setCell ⟨w.heap.size + 2, 4, none⟩ (.slice x1 rl1.length y1)).setCell ⟨w.heap.size + 2, 5, none⟩ (.slice x2 rl2.length y2)).setCell ⟨w.heap.size + 2, 6, none⟩ (.slice x3 rl3.length y3)).setCell ⟨w.heap.size + 2, 7, none⟩ (.slice x4 rl4.length y4)).setCell ⟨w.heap.size + 2, 8, none⟩ (.int .i64 rmn)) = W9 at *
    have r0 := cell_blk HZ9.out 0 _ rfl
    have r1 := cell_blk HZ9.out 1 _ rfl
    have r2 := cell_blk HZ9.out 2 _ rfl
    have r3 := cell_blk HZ9.out 3 _ rfl
    have r4 := cell_blk HZ9.out 4 _ rfl
    have r5 := cell_blk HZ9.out 5 _ rfl
    have r6 := cell_blk HZ9.out 6 _ rfl
    have r7 := cell_blk HZ9.out 7 _ rfl
    have r8 := cell_blk HZ9.out 8 _ rfl
    exact bodyPost_ret (v := .tuple #[.agg #[.int .i64 rid, .int .i64 rld, .int .i64 rep, .int .i64 rvr, .slice x1 rl1.length y1, .slice x2 rl2.length y2, .slice x3 rl3.length y3, .slice x4 rl4.length y4, .int .i64 rmn], .int .i64 re]) (by simp [results, Try.results17, go_sem, r0, r1, r2, r3, r4, r5, r6, r7, r8]) rfl ⟨_, rfl, HP9.out, HI5.out, HB9.out⟩
  · have GC := hid (begin_any (HP.out W0 HT0.out.b) (QL.out.under HT0.out.b) (QU.out.under HT0.out.b))
    have HDK : Hid (_ = _) := HD.out
    simp at HDK
    rw [← HDK.out] at GC
    clear HD HDK
    go_wp2_with fail
    refine GC.out.mono ?_
    rintro e W2 ⟨v', rfl, h1, h2, hb⟩
    have HSZ : Hid (w.heap.size + 2 < W0.heap.size) := lt_blk HT0.out.z
    have HI2 := hid (h2.mono (Y := fun b => b ≠ w.heap.size + 2) fun b hx => by have := HSZ.out; omega)
    have HI3 := hid (h2.mono (Y := fun b => w.heap.size ≤ b) fun b hx => by have := HSZ.out; omega)
    obtain ⟨x1, y1, x2, y2, x3, y3, x4, y4, rfl, _⟩ := h1.open
    have H1 : Hid (PartM W2 (.agg #[.int .i64 rid, .int .i64 rld, .int .i64 rep, .int .i64 rvr, .slice x1 rl1.length y1, .slice x2 rl2.length y2, .slice x3 rl3.length y3, .slice x4 rl4.length y4, .int .i64 rmn]) ⟨rid, rld, rep, rvr, rl1, rl2, rl3, rl4, rmn⟩) := h1
    have HI4 : Hid (InP (fun b => b ≠ w.heap.size + 2) (.agg #[.int .i64 rid, .int .i64 rld, .int .i64 rep, .int .i64 rvr, .slice x1 rl1.length y1, .slice x2 rl2.length y2, .slice x3 rl3.length y3, .slice x4 rl4.length y4, .int .i64 rmn]) ⟨rid, rld, rep, rvr, rl1, rl2, rl3, rl4, rmn⟩) := HI2.out
    have HI5 : Hid (InP (fun b => w.heap.size ≤ b) (.agg #[.int .i64 rid, .int .i64 rld, .int .i64 rep, .int .i64 rvr, .slice x1 rl1.length y1, .slice x2 rl2.length y2, .slice x3 rl3.length y3, .slice x4 rl4.length y4, .int .i64 rmn]) ⟨rid, rld, rep, rvr, rl1, rl2, rl3, rl4, rmn⟩) := HI3.out
    have HT2 := hid (HT0.out.next hb)
    clear h1 h2 hb HI2 HI3 k0 k1 k2 k3 k4 k5 k6 k7 k8 m0 m1 m2 m3 m4 m5
    have z0 := cell_blk HT2.out.z 0 _ rfl
    have z1 := cell_blk HT2.out.z 1 _ rfl
    have z2 := cell_blk HT2.out.z 2 _ rfl
    have z3 := cell_blk HT2.out.z 3 _ rfl
    have z4 := cell_blk HT2.out.z 4 _ rfl
    have z5 := cell_blk HT2.out.z 5 _ rfl
    have z6 := cell_blk HT2.out.z 6 _ rfl
    have z7 := cell_blk HT2.out.z 7 _ rfl
    have z8 := cell_blk HT2.out.z 8 _ rfl
    have fz := frz_blk HT2.out.z
    go_wp2_with fail
    obtain ⟨hoff, hsz9⟩ := nine_off W2 (w.heap.size + 2) (.int .i64 rid) (.int .i64 rld) (.int .i64 rep) (.int .i64 rvr) (.slice x1 rl1.length y1) (.slice x2 rl2.length y2) (.slice x3 rl3.length y3) (.slice x4 rl4.length y4) (.int .i64 rmn)
    have HZ9 := hid (nine_q HT2.out.z rfl (.int .i64 rid) (.int .i64 rld) (.int .i64 rep) (.int .i64 rvr) (.slice x1 rl1.length y1) (.slice x2 rl2.length y2) (.slice x3 rl3.length y3) (.slice x4 rl4.length y4) (.int .i64 rmn))
    have HB9 := hid (nine_below HT2.out.b (Nat.le_add_right _ 2) (.int .i64 rid) (.int .i64 rld) (.int .i64 rep) (.int .i64 rvr) (.slice x1 rl1.length y1) (.slice x2 rl2.length y2) (.slice x3 rl3.length y3) (.slice x4 rl4.length y4) (.int .i64 rmn))
    have HP9 := hid (H1.out.off HI4.out hoff hsz9)
    clear hoff hsz9 z0 z1 z2 z3 z4 z5 z6 z7 z8 fz
    generalize (((((((((W2.setCell ⟨w.heap.size + 2, 0, none⟩ (.int .i64 rid)).setCell ⟨w.heap.size + 2, 1, none⟩ (.int .i64 rld)).setCell ⟨w.heap.size + 2, 2, none⟩ (.int .i64 rep)).setCell ⟨w.heap.size + 2, 3, none⟩ (.int .i64 rvr)).setCell ⟨w.heap.size + 2, 4, none⟩ (.slice x1 rl1.length y1)).setCell ⟨w.heap.size + 2, 5, none⟩ (.slice x2 rl2.length y2)).setCell ⟨w.heap.size + 2, 6, none⟩ (.slice x3 rl3.length y3)).setCell ⟨w.heap.size + 2, 7, none⟩ (.slice x4 rl4.length y4)).setCell ⟨w.heap.size + 2, 8, none⟩ (.int .i64 rmn)) = W9 at *
    have r0 := cell_blk HZ9.out 0 _ rfl
    have r1 := cell_blk HZ9.out 1 _ rfl
    have r2 := cell_blk HZ9.out 2 _ rfl
    have r3 := cell_blk HZ9.out 3 _ rfl
    have r4 := cell_blk HZ9.out 4 _ rfl
    have r5 := cell_blk HZ9.out 5 _ rfl
    have r6 := cell_blk HZ9.out 6 _ rfl
    have r7 := cell_blk HZ9.out 7 _ rfl
    have r8 := cell_blk HZ9.out 8 _ rfl
    exact bodyPost_ret (v := .tuple #[.agg #[.int .i64 rid, .int .i64 rld, .int .i64 rep, .int .i64 rvr, .slice x1 rl1.length y1, .slice x2 rl2.length y2, .slice x3 rl3.length y3, .slice x4 rl4.length y4, .int .i64 rmn], .int .i64 re]) (by simp [results, Try.results17, go_sem, r0, r1, r2, r3, r4, r5, r6, r7, r8]) rfl ⟨_, rfl, HP9.out, HI5.out, HB9.out⟩
  · have GC := hid (cancel_any (HP.out W0 HT0.out.b) (QU.out.under HT0.out.b))
    have HDK : Hid (_ = _) := HD.out
    simp at HDK
    rw [← HDK.out] at GC
    clear HD HDK
    go_wp2_with fail
    refine (G16.out _).mono ?_
    rintro e W1 ⟨rfl, rfl⟩
    go_wp2_with fail
    refine GC.out.mono ?_
    rintro e W2 ⟨v', rfl, h1, h2, hb⟩
    have HSZ : Hid (w.heap.size + 2 < W0.heap.size) := lt_blk HT0.out.z
    have HI2 := hid (h2.mono (Y := fun b => b ≠ w.heap.size + 2) fun b hx => by have := HSZ.out; omega)
    have HI3 := hid (h2.mono (Y := fun b => w.heap.size ≤ b) fun b hx => by have := HSZ.out; omega)
    obtain ⟨x1, y1, x2, y2, x3, y3, x4, y4, rfl, _⟩ := h1.open
    have H1 : Hid (PartM W2 (.agg #[.int .i64 rid, .int .i64 rld, .int .i64 rep, .int .i64 rvr, .slice x1 rl1.length y1, .slice x2 rl2.length y2, .slice x3 rl3.length y3, .slice x4 rl4.length y4, .int .i64 rmn]) ⟨rid, rld, rep, rvr, rl1, rl2, rl3, rl4, rmn⟩) := h1
    have HI4 : Hid (InP (fun b => b ≠ w.heap.size + 2) (.agg #[.int .i64 rid, .int .i64 rld, .int .i64 rep, .int .i64 rvr, .slice x1 rl1.length y1, .slice x2 rl2.length y2, .slice x3 rl3.length y3, .slice x4 rl4.length y4, .int .i64 rmn]) ⟨rid, rld, rep, rvr, rl1, rl2, rl3, rl4, rmn⟩) := HI2.out
    have HI5 : Hid (InP (fun b => w.heap.size ≤ b) (.agg #[.int .i64 rid, .int .i64 rld, .int .i64 rep, .int .i64 rvr, .slice x1 rl1.length y1, .slice x2 rl2.length y2, .slice x3 rl3.length y3, .slice x4 rl4.length y4, .int .i64 rmn]) ⟨rid, rld, rep, rvr, rl1, rl2, rl3, rl4, rmn⟩) := HI3.out
    have HT2 := hid (HT0.out.next hb)
    clear h1 h2 hb HI2 HI3 k0 k1 k2 k3 k4 k5 k6 k7 k8 m0 m1 m2 m3 m4 m5
    have z0 := cell_blk HT2.out.z 0 _ rfl
    have z1 := cell_blk HT2.out.z 1 _ rfl
    have z2 := cell_blk HT2.out.z 2 _ rfl
    have z3 := cell_blk HT2.out.z 3 _ rfl
    have z4 := cell_blk HT2.out.z 4 _ rfl
    have z5 := cell_blk HT2.out.z 5 _ rfl
    have z6 := cell_blk HT2.out.z 6 _ rfl
    have z7 := cell_blk HT2.out.z 7 _ rfl
    have z8 := cell_blk HT2.out.z 8 _ rfl
    have fz := frz_blk HT2.out.z
    go_wp2_with fail
    obtain ⟨hoff, hsz9⟩ := nine_off W2 (w.heap.size + 2) (.int .i64 rid) (.int .i64 rld) (.int .i64 rep) (.int .i64 rvr) (.slice x1 rl1.length y1) (.slice x2 rl2.length y2) (.slice x3 rl3.length y3) (.slice x4 rl4.length y4) (.int .i64 rmn)
    have HZ9 := hid (nine_q HT2.out.z rfl (.int .i64 rid) (.int .i64 rld) (.int .i64 rep) (.int .i64 rvr) (.slice x1 rl1.length y1) (.slice x2 rl2.length y2) (.slice x3 rl3.length y3) (.slice x4 rl4.length y4) (.int .i64 rmn))
    have HB9 := hid (nine_below HT2.out.b (Nat.le_add_right _ 2) (.int .i64 rid) (.int .i64 rld) (.int .i64 rep) (.int .i64 rvr) (.slice x1 rl1.length y1) (.slice x2 rl2.length y2) (.slice x3 rl3.length y3) (.slice x4 rl4.length y4) (.int .i64 rmn))
    have HP9 := hid (H1.out.off HI4.out hoff hsz9)
    clear hoff hsz9 z0 z1 z2 z3 z4 z5 z6 z7 z8 fz
    generalize (((((((((W2.setCell ⟨w.heap.size + 2, 0, none⟩ (.int .i64 rid)).setCell ⟨w.heap.size + 2, 1, none⟩ (.int .i64 rld)).setCell ⟨w.heap.size + 2, 2, none⟩ (.int .i64 rep)).setCell ⟨w.heap.size + 2, 3, none⟩ (.int .i64 rvr)).setCell ⟨w.heap.size + 2, 4, none⟩ (.slice x1 rl1.length y1)).setCell ⟨w.heap.size + 2, 5, none⟩ (.slice x2 rl2.length y2)).setCell ⟨w.heap.size + 2, 6, none⟩ (.slice x3 rl3.length y3)).setCell ⟨w.heap.size + 2, 7, none⟩ (.slice x4 rl4.length y4)).setCell ⟨w.heap.size + 2, 8, none⟩ (.int .i64 rmn)) = W9 at *
    have r0 := cell_blk HZ9.out 0 _ rfl
    have r1 := cell_blk HZ9.out 1 _ rfl
    have r2 := cell_blk HZ9.out 2 _ rfl
    have r3 := cell_blk HZ9.out 3 _ rfl
    have r4 := cell_blk HZ9.out 4 _ rfl
    have r5 := cell_blk HZ9.out 5 _ rfl
    have r6 := cell_blk HZ9.out 6 _ rfl
    have r7 := cell_blk HZ9.out 7 _ rfl
    have r8 := cell_blk HZ9.out 8 _ rfl
    exact bodyPost_ret (v := .tuple #[.agg #[.int .i64 rid, .int .i64 rld, .int .i64 rep, .int .i64 rvr, .slice x1 rl1.length y1, .slice x2 rl2.length y2, .slice x3 rl3.length y3, .slice x4 rl4.length y4, .int .i64 rmn], .int .i64 re]) (by simp [results, Try.results17, go_sem, r0, r1, r2, r3, r4, r5, r6, r7, r8]) rfl ⟨_, rfl, HP9.out, HI5.out, HB9.out⟩
  · have GC := hid (finish_any (HP.out W0 HT0.out.b) (QU.out.under HT0.out.b))
    have HDK : Hid (_ = _) := HD.out
    simp at HDK
    rw [← HDK.out] at GC
    clear HD HDK
    go_wp2_with fail
    refine (G16.out _).mono ?_
    rintro e W1 ⟨rfl, rfl⟩
    go_wp2_with fail
    refine GC.out.mono ?_
    rintro e W2 ⟨v', rfl, h1, h2, hb⟩
    have HSZ : Hid (w.heap.size + 2 < W0.heap.size) := lt_blk HT0.out.z
    have HI2 := hid (h2.mono (Y := fun b => b ≠ w.heap.size + 2) fun b hx => by have := HSZ.out; omega)
    have HI3 := hid (h2.mono (Y := fun b => w.heap.size ≤ b) fun b hx => by have := HSZ.out; omega)
    obtain ⟨x1, y1, x2, y2, x3, y3, x4, y4, rfl, _⟩ := h1.open
    have H1 : Hid (PartM W2 (.agg #[.int .i64 rid, .int .i64 rld, .int .i64 rep, .int .i64 rvr, .slice x1 rl1.length y1, .slice x2 rl2.length y2, .slice x3 rl3.length y3, .slice x4 rl4.length y4, .int .i64 rmn]) ⟨rid, rld, rep, rvr, rl1, rl2, rl3, rl4, rmn⟩) := h1
    have HI4 : Hid (InP (fun b => b ≠ w.heap.size + 2) (.agg #[.int .i64 rid, .int .i64 rld, .int .i64 rep, .int .i64 rvr, .slice x1 rl1.length y1, .slice x2 rl2.length y2, .slice x3 rl3.length y3, .slice x4 rl4.length y4, .int .i64 rmn]) ⟨rid, rld, rep, rvr, rl1, rl2, rl3, rl4, rmn⟩) := HI2.out
    have HI5 : Hid (InP (fun b => w.heap.size ≤ b) (.agg #[.int .i64 rid, .int .i64 rld, .int .i64 rep, .int .i64 rvr, .slice x1 rl1.length y1, .slice x2 rl2.length y2, .slice x3 rl3.length y3, .slice x4 rl4.length y4, .int .i64 rmn]) ⟨rid, rld, rep, rvr, rl1, rl2, rl3, rl4, rmn⟩) := HI3.out
    have HT2 := hid (HT0.out.next hb)
    clear h1 h2 hb HI2 HI3 k0 k1 k2 k3 k4 k5 k6 k7 k8 m0 m1 m2 m3 m4 m5
    have z0 := cell_blk HT2.out.z 0 _ rfl
    have z1 := cell_blk HT2.out.z 1 _ rfl
    have z2 := cell_blk HT2.out.z 2 _ rfl
    have z3 := cell_blk HT2.out.z 3 _ rfl
    have z4 := cell_blk HT2.out.z 4 _ rfl
    have z5 := cell_blk HT2.out.z 5 _ rfl
    have z6 := cell_blk HT2.out.z 6 _ rfl
    have z7 := cell_blk HT2.out.z 7 _ rfl
    have z8 := cell_blk HT2.out.z 8 _ rfl
    have fz := frz_blk HT2.out.z
    go_wp2_with fail
    obtain ⟨hoff, hsz9⟩ := nine_off W2 (w.heap.size + 2) (.int .i64 rid) (.int .i64 rld) (.int .i64 rep) (.int .i64 rvr) (.slice x1 rl1.length y1) (.slice x2 rl2.length y2) (.slice x3 rl3.length y3) (.slice x4 rl4.length y4) (.int .i64 rmn)
    have HZ9 := hid (nine_q HT2.out.z rfl (.int .i64 rid) (.int .i64 rld) (.int .i64 rep) (.int .i64 rvr) (.slice x1 rl1.length y1) (.slice x2 rl2.length y2) (.slice x3 rl3.length y3) (.slice x4 rl4.length y4) (.int .i64 rmn))
    have HB9 := hid (nine_below HT2.out.b (Nat.le_add_right _ 2) (.int .i64 rid) (.int .i64 rld) (.int .i64 rep) (.int .i64 rvr) (.slice x1 rl1.length y1) (.slice x2 rl2.length y2) (.slice x3 rl3.length y3) (.slice x4 rl4.length y4) (.int .i64 rmn))
    have HP9 := hid (H1.out.off HI4.out hoff hsz9)
    clear hoff hsz9 z0 z1 z2 z3 z4 z5 z6 z7 z8 fz
    generalize (((((((((W2.setCell ⟨w.heap.size + 2, 0, none⟩ (.int .i64 rid)).setCell ⟨w.heap.size + 2, 1, none⟩ (.int .i64 rld)).setCell ⟨w.heap.size + 2, 2, none⟩ (.int .i64 rep)).setCell ⟨w.heap.size + 2, 3, none⟩ (.int .i64 rvr)).setCell ⟨w.heap.size + 2, 4, none⟩ (.slice x1 rl1.length y1)).setCell ⟨w.heap.size + 2, 5, none⟩ (.slice x2 rl2.length y2)).setCell ⟨w.heap.size + 2, 6, none⟩ (.slice x3 rl3.length y3)).setCell ⟨w.heap.size + 2, 7, none⟩ (.slice x4 rl4.length y4)).setCell ⟨w.heap.size + 2, 8, none⟩ (.int .i64 rmn)) = W9 at *
    have r0 := cell_blk HZ9.out 0 _ rfl
    have r1 := cell_blk HZ9.out 1 _ rfl
    have r2 := cell_blk HZ9.out 2 _ rfl
    have r3 := cell_blk HZ9.out 3 _ rfl
    have r4 := cell_blk HZ9.out 4 _ rfl
    have r5 := cell_blk HZ9.out 5 _ rfl
    have r6 := cell_blk HZ9.out 6 _ rfl
    have r7 := cell_blk HZ9.out 7 _ rfl
    have r8 := cell_blk HZ9.out 8 _ rfl
    exact bodyPost_ret (v := .tuple #[.agg #[.int .i64 rid, .int .i64 rld, .int .i64 rep, .int .i64 rvr, .slice x1 rl1.length y1, .slice x2 rl2.length y2, .slice x3 rl3.length y3, .slice x4 rl4.length y4, .int .i64 rmn], .int .i64 re]) (by simp [results, Try.results17, go_sem, r0, r1, r2, r3, r4, r5, r6, r7, r8]) rfl ⟨_, rfl, HP9.out, HI5.out, HB9.out⟩
end Go.Proofs.Ytfahepeemodcbaa
