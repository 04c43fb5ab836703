/- Each decision makes of a partition's state what the document's does, or is refused like it; Right, Same and Clone are the document's too: any two states, any decision. -/
import Derived.Test.YtfahepeemodcbaaN16
import Derived.Test.YtfahepeemodcbaaRows
import Derived.SizedLaws
import Derived.Test.YtfahepeemodcbaaSq
namespace Go.Proofs.Ytfahepeemodcbaa
open Go.RowKit Go.Maps
set_option linter.unusedSimpArgs false
set_option linter.unusedVariables false
set_option maxRecDepth 100000

/-- Both states and the call. -/
structure Dua (w W : World) (cs ds os : Array Value) : Prop where
  x : W.heap[w.heap.size]? = some (.cells cs 24)
  y : W.heap[w.heap.size + 1]? = some (.cells ds 24)
  o : W.heap[w.heap.size + 2]? = some (.cells os 26)
  b : Below w.heap.size w W
theorem dua_new (w : World) (cs ds os : Array Value) : Dua w (((w.alloc (.cells cs 24)).alloc (.cells ds 24)).alloc (.cells os 26)) cs ds os := by
  refine ⟨?_, ?_, ?_, (((Below.refl _ _).alloc (Nat.le_refl _) _).alloc (by simp) _).alloc (by simp; omega) _⟩
  · rw [Below.heap_alloc _ _ _ (by simp; omega), Below.heap_alloc _ _ _ (by simp)]; exact heap_alloc_new _ _
  · have := heap_alloc_new (w.alloc (.cells cs 24)) (.cells ds 24)
    rw [show (w.alloc (.cells cs 24)).heap.size = w.heap.size + 1 by simp] at this
    rw [Below.heap_alloc _ _ _ (by simp)]; exact this
  · have := heap_alloc_new ((w.alloc (.cells cs 24)).alloc (.cells ds 24)) (.cells os 26)
    rw [show ((w.alloc (.cells cs 24)).alloc (.cells ds 24)).heap.size = w.heap.size + 2 by simp] at this
    exact this
theorem Dua.next {w W W' : World} {cs ds os : Array Value} (h : Dua w W cs ds os) (hb : Below W.heap.size W W') : Dua w W' cs ds os := ⟨blk_under h.x hb, blk_under h.y hb, blk_under h.o hb, h.b.trans (hb.mono h.b.size)⟩
theorem sameP_refl (p : Pt) : sameP p p = true := by simp [sameP]
theorem OneR.open {w w' : World} {r : Pt × Int} {e : Ending} (h : OneR w r e w') : ∃ x1 y1 x2 y2 x3 y3 x4 y4 t1 u1 t2 u2 t3 u3 t4 u4, e = .returned (.tuple #[.agg #[.int .i64 r.1.id, .int .i64 r.1.leader, .int .i64 r.1.epoch, .int .i64 r.1.ver, .slice x1 r.1.isr.length y1, .slice x2 r.1.reps.length y2, .slice x3 r.1.add.length y3, .slice x4 r.1.rem.length y4, .int .i64 r.1.min], .int .i64 r.2, .agg #[.int .i64 r.1.id, .int .i64 r.1.leader, .int .i64 r.1.epoch, .int .i64 r.1.ver, .slice t1 r.1.isr.length u1, .slice t2 r.1.reps.length u2, .slice t3 r.1.add.length u3, .slice t4 r.1.rem.length u4, .int .i64 r.1.min], .int .i64 r.2]) ∧ Hid (PartM w' (.agg #[.int .i64 r.1.id, .int .i64 r.1.leader, .int .i64 r.1.epoch, .int .i64 r.1.ver, .slice x1 r.1.isr.length y1, .slice x2 r.1.reps.length y2, .slice x3 r.1.add.length y3, .slice x4 r.1.rem.length y4, .int .i64 r.1.min]) r.1) ∧ Hid (InP (fun b => w.heap.size ≤ b) (.agg #[.int .i64 r.1.id, .int .i64 r.1.leader, .int .i64 r.1.epoch, .int .i64 r.1.ver, .slice x1 r.1.isr.length y1, .slice x2 r.1.reps.length y2, .slice x3 r.1.add.length y3, .slice x4 r.1.rem.length y4, .int .i64 r.1.min]) r.1) ∧ Hid (PartM w' (.agg #[.int .i64 r.1.id, .int .i64 r.1.leader, .int .i64 r.1.epoch, .int .i64 r.1.ver, .slice t1 r.1.isr.length u1, .slice t2 r.1.reps.length u2, .slice t3 r.1.add.length u3, .slice t4 r.1.rem.length u4, .int .i64 r.1.min]) r.1) ∧ Below w.heap.size w w' := by
  obtain ⟨va, vb, rfl, h1, h2, h3, h4, h5⟩ := h
  obtain ⟨x1, y1, x2, y2, x3, y3, x4, y4, rfl, _⟩ := h1.open
  obtain ⟨t1, u1, t2, u2, t3, u3, t4, u4, rfl, _⟩ := h3.open
  exact ⟨x1, y1, x2, y2, x3, y3, x4, y4, t1, u1, t2, u2, t3, u3, t4, u4, rfl, h1, h2, h3, h5⟩
set_option maxHeartbeats 12800000 in
theorem does_walk {w : World} {v v2 ov : Value} {p p2 : Pt} {o : Opn} (h : PartM w v p) (h2 : PartM w v2 p2) (ho : OpM w ov o) : Calls Try.prog 3 #[v, v2, ov] w fun e w' => e = .returned (.bool true) ∧ Below w.heap.size w w' := by
  obtain ⟨id, ld, ep, vr, isr, reps, add, rem, mn⟩ := p
  obtain ⟨a1, c1, a2, c2, a3, c3, a4, c4, rfl, q1, q2, q3, q4, i0, i1, i2, i3, i4⟩ := h.open
  simp only at q1 q2 q3 q4 i0 i1 i2 i3 i4 ⊢
  have Q1 := hid q1
  have Q2 := hid q2
  have Q3 := hid q3
  have Q4 := hid q4
  clear h q1 q2 q3 q4
  have HPp : Hid (∀ W, Below w.heap.size w W → PartM W (.agg #[.int .i64 id, .int .i64 ld, .int .i64 ep, .int .i64 vr, .slice a1 isr.length c1, .slice a2 reps.length c2, .slice a3 add.length c3, .slice a4 rem.length c4, .int .i64 mn]) ⟨id, ld, ep, vr, isr, reps, add, rem, mn⟩) := fun W hb => ⟨_, _, _, _, rfl, Q1.out.under hb, Q2.out.under hb, Q3.out.under hb, Q4.out.under hb, i0, i1, i2, i3, i4⟩
  clear i0 i1 i2 i3 i4 Q1 Q2 Q3 Q4
  obtain ⟨id', ld', ep', vr', isr', reps', add', rem', mn'⟩ := p2
  have HP2 := hid h2
  obtain ⟨b1, d1, b2, d2, b3, d3, b4, d4, rfl, _⟩ := h2.open
  simp only at HP2 ⊢
  clear h2
  have HPq : Hid (∀ W, Below w.heap.size w W → PartM W (.agg #[.int .i64 id', .int .i64 ld', .int .i64 ep', .int .i64 vr', .slice b1 isr'.length d1, .slice b2 reps'.length d2, .slice b3 add'.length d3, .slice b4 rem'.length d4, .int .i64 mn']) ⟨id', ld', ep', vr', isr', reps', add', rem', mn'⟩) := fun W hb => HP2.out.under hb
  clear HP2
  obtain ⟨ok, oa, ob, oc, ol, ou⟩ := o
  have HO := hid ho
  obtain ⟨lv, uv, rfl, hl, hu, _⟩ := ho
  simp only at hl hu
  obtain ⟨la, lc, rfl, _⟩ := hl.shape
  obtain ⟨ua, uc, rfl, _⟩ := hu.shape
  clear hl hu
  have G10 : Hid (∀ W, Below w.heap.size w W → Calls Try.prog 10 #[.agg #[.int .i64 id, .int .i64 ld, .int .i64 ep, .int .i64 vr, .slice a1 isr.length c1, .slice a2 reps.length c2, .slice a3 add.length c3, .slice a4 rem.length c4, .int .i64 mn], .agg #[.int .i64 ok, .int .i64 oa, .int .i64 ob, .int .i64 oc, .slice la ol.length lc, .slice ua ou.length uc]] W fun e w' => OneR W (didP ⟨id, ld, ep, vr, isr, reps, add, rem, mn⟩ ⟨ok, oa, ob, oc, ol, ou⟩) e w') := fun W hb => one_any (HPp.out W hb) (HO.out.under hb)
  generalize didP ⟨id, ld, ep, vr, isr, reps, add, rem, mn⟩ ⟨ok, oa, ob, oc, ol, ou⟩ = r at *
  obtain ⟨⟨rid, rld, rep, rvr, rl1, rl2, rl3, rl4, rmn⟩, re⟩ := r
  have HT0 := hid (dua_new w #[.int .i64 id, .int .i64 ld, .int .i64 ep, .int .i64 vr, .slice a1 isr.length c1, .slice a2 reps.length c2, .slice a3 add.length c3, .slice a4 rem.length c4, .int .i64 mn] #[.int .i64 id', .int .i64 ld', .int .i64 ep', .int .i64 vr', .slice b1 isr'.length d1, .slice b2 reps'.length d2, .slice b3 add'.length d3, .slice b4 rem'.length d4, .int .i64 mn'] #[.int .i64 ok, .int .i64 oa, .int .i64 ob, .int .i64 oc, .slice la ol.length lc, .slice ua ou.length uc])
  clear HO
  go_enter Try.func3, Try.ntmps3
  go_wp2_with fail
  generalize ((w.alloc (.cells #[.int .i64 id, .int .i64 ld, .int .i64 ep, .int .i64 vr, .slice a1 isr.length c1, .slice a2 reps.length c2, .slice a3 add.length c3, .slice a4 rem.length c4, .int .i64 mn] 24)).alloc (.cells #[.int .i64 id', .int .i64 ld', .int .i64 ep', .int .i64 vr', .slice b1 isr'.length d1, .slice b2 reps'.length d2, .slice b3 add'.length d3, .slice b4 rem'.length d4, .int .i64 mn'] 24)).alloc (.cells #[.int .i64 ok, .int .i64 oa, .int .i64 ob, .int .i64 oc, .slice la ol.length lc, .slice ua ou.length uc] 26) = W0 at *
  refine (shown_any _).mono ?_
  rintro e W1 ⟨rfl, hb⟩
  have HD1 := hid (HT0.out.next hb)
  clear hb HT0
  have k0 := cell_blk HD1.out.x 0 _ rfl
  have k1 := cell_blk HD1.out.x 1 _ rfl
  have k2 := cell_blk HD1.out.x 2 _ rfl
  have k3 := cell_blk HD1.out.x 3 _ rfl
  have k4 := cell_blk HD1.out.x 4 _ rfl
  have k5 := cell_blk HD1.out.x 5 _ rfl
  have k6 := cell_blk HD1.out.x 6 _ rfl
  have k7 := cell_blk HD1.out.x 7 _ rfl
  have k8 := cell_blk HD1.out.x 8 _ rfl
  have m0 := cell_blk HD1.out.o 0 _ rfl
  have m1 := cell_blk HD1.out.o 1 _ rfl
  have m2 := cell_blk HD1.out.o 2 _ rfl
  have m3 := cell_blk HD1.out.o 3 _ rfl
  have m4 := cell_blk HD1.out.o 4 _ rfl
  have m5 := cell_blk HD1.out.o 5 _ rfl
  go_wp2_with fail
  refine (G10.out _ HD1.out.b).mono ?_
  rintro e W2 hr
  obtain ⟨x1, y1, x2, y2, x3, y3, x4, y4, t1, u1, t2, u2, t3, u3, t4, u4, rfl, HA, HAi, HB, hb⟩ := hr.open
  simp only at HA HAi HB
  have HD2 := hid (HD1.out.next hb)
  clear hr hb HD1 k0 k1 k2 k3 k4 k5 k6 k7 k8 m0 m1 m2 m3 m4 m5
  go_upto_region 3 with fail
  have hA : Below W2.heap.size W2 ((W2.alloc (.cells #[.int .i64 rid, .int .i64 rld, .int .i64 rep, .int .i64 rvr, .slice x1 rl1.length y1, .slice x2 rl2.length y2, .slice x3 rl3.length y3, .slice x4 rl4.length y4, .int .i64 rmn] 24)).alloc (.cells #[.int .i64 rid, .int .i64 rld, .int .i64 rep, .int .i64 rvr, .slice t1 rl1.length u1, .slice t2 rl2.length u2, .slice t3 rl3.length u3, .slice t4 rl4.length u4, .int .i64 rmn] 24)) := ((Below.refl _ _).alloc (Nat.le_refl _) _).alloc (by simp) _
  have HD3 := hid (HD2.out.next hA)
  have HA3 := hid (HA.out.under hA)
  have HB3 := hid (HB.out.under hA)
  have HQ1 : Hid (((W2.alloc (.cells #[.int .i64 rid, .int .i64 rld, .int .i64 rep, .int .i64 rvr, .slice x1 rl1.length y1, .slice x2 rl2.length y2, .slice x3 rl3.length y3, .slice x4 rl4.length y4, .int .i64 rmn] 24)).alloc (.cells #[.int .i64 rid, .int .i64 rld, .int .i64 rep, .int .i64 rvr, .slice t1 rl1.length u1, .slice t2 rl2.length u2, .slice t3 rl3.length u3, .slice t4 rl4.length u4, .int .i64 rmn] 24)).heap[W2.heap.size]? = some (.cells #[.int .i64 rid, .int .i64 rld, .int .i64 rep, .int .i64 rvr, .slice x1 rl1.length y1, .slice x2 rl2.length y2, .slice x3 rl3.length y3, .slice x4 rl4.length y4, .int .i64 rmn] 24)) := by
    show _ = _
    rw [Below.heap_alloc _ _ _ (by simp)]; exact heap_alloc_new _ _
  have HQ2 : Hid (((W2.alloc (.cells #[.int .i64 rid, .int .i64 rld, .int .i64 rep, .int .i64 rvr, .slice x1 rl1.length y1, .slice x2 rl2.length y2, .slice x3 rl3.length y3, .slice x4 rl4.length y4, .int .i64 rmn] 24)).alloc (.cells #[.int .i64 rid, .int .i64 rld, .int .i64 rep, .int .i64 rvr, .slice t1 rl1.length u1, .slice t2 rl2.length u2, .slice t3 rl3.length u3, .slice t4 rl4.length u4, .int .i64 rmn] 24)).heap[W2.heap.size + 1]? = some (.cells #[.int .i64 rid, .int .i64 rld, .int .i64 rep, .int .i64 rvr, .slice t1 rl1.length u1, .slice t2 rl2.length u2, .slice t3 rl3.length u3, .slice t4 rl4.length u4, .int .i64 rmn] 24)) := by
    show _ = _
    have := heap_alloc_new (W2.alloc (.cells #[.int .i64 rid, .int .i64 rld, .int .i64 rep, .int .i64 rvr, .slice x1 rl1.length y1, .slice x2 rl2.length y2, .slice x3 rl3.length y3, .slice x4 rl4.length y4, .int .i64 rmn] 24)) (.cells #[.int .i64 rid, .int .i64 rld, .int .i64 rep, .int .i64 rvr, .slice t1 rl1.length u1, .slice t2 rl2.length u2, .slice t3 rl3.length u3, .slice t4 rl4.length u4, .int .i64 rmn] 24)
    rw [show (W2.alloc (.cells #[.int .i64 rid, .int .i64 rld, .int .i64 rep, .int .i64 rvr, .slice x1 rl1.length y1, .slice x2 rl2.length y2, .slice x3 rl3.length y3, .slice x4 rl4.length y4, .int .i64 rmn] 24)).heap.size = W2.heap.size + 1 by simp] at this
    exact this
  clear hA HA HB HD2
  generalize (W2.alloc (.cells #[.int .i64 rid, .int .i64 rld, .int .i64 rep, .int .i64 rvr, .slice x1 rl1.length y1, .slice x2 rl2.length y2, .slice x3 rl3.length y3, .slice x4 rl4.length y4, .int .i64 rmn] 24)).alloc (.cells #[.int .i64 rid, .int .i64 rld, .int .i64 rep, .int .i64 rvr, .slice t1 rl1.length u1, .slice t2 rl2.length u2, .slice t3 rl3.length u3, .slice t4 rl4.length u4, .int .i64 rmn] 24) = W3 at *
  generalize W2.heap.size = q at *
  have k0 := cell_blk HQ1.out 0 _ rfl
  have k1 := cell_blk HQ1.out 1 _ rfl
  have k2 := cell_blk HQ1.out 2 _ rfl
  have k3 := cell_blk HQ1.out 3 _ rfl
  have k4 := cell_blk HQ1.out 4 _ rfl
  have k5 := cell_blk HQ1.out 5 _ rfl
  have k6 := cell_blk HQ1.out 6 _ rfl
  have k7 := cell_blk HQ1.out 7 _ rfl
  have k8 := cell_blk HQ1.out 8 _ rfl
  have m0 := cell_blk HQ2.out 0 _ rfl
  have m1 := cell_blk HQ2.out 1 _ rfl
  have m2 := cell_blk HQ2.out 2 _ rfl
  have m3 := cell_blk HQ2.out 3 _ rfl
  have m4 := cell_blk HQ2.out 4 _ rfl
  have m5 := cell_blk HQ2.out 5 _ rfl
  have m6 := cell_blk HQ2.out 6 _ rfl
  have m7 := cell_blk HQ2.out 7 _ rfl
  have m8 := cell_blk HQ2.out 8 _ rfl
  have G11 := hid (rsameP_any HA3.out HB3.out)
  rw [sameP_refl] at G11
  go_wp2_with fail
  refine G11.out.mono ?_
  rintro e W5 ⟨rfl, hb⟩
  have HD5 := hid (HD3.out.next hb)
  clear hb HD3 HA3 HB3 HQ1 HQ2 G11 k0 k1 k2 k3 k4 k5 k6 k7 k8 m0 m1 m2 m3 m4 m5 m6 m7 m8
  have hBB : ∀ V, Below W5.heap.size W5 V → Below w.heap.size w V := fun V hb => HD5.out.b.trans (hb.mono HD5.out.b.size)
  have J12 : Hid (∀ V, Below W5.heap.size W5 V → Calls Try.prog 12 #[.agg #[.int .i64 id, .int .i64 ld, .int .i64 ep, .int .i64 vr, .slice a1 isr.length c1, .slice a2 reps.length c2, .slice a3 add.length c3, .slice a4 rem.length c4, .int .i64 mn]] V fun e w' => e = .returned (.bool (rightB ⟨id, ld, ep, vr, isr, reps, add, rem, mn⟩)) ∧ Below W5.heap.size W5 w') := fun V hb => (right_any (HPp.out V (hBB V hb))).mono fun e w' ⟨e1, e2⟩ => ⟨e1, hb.trans (e2.mono hb.size)⟩
  have J13 : Hid (∀ V, Below W5.heap.size W5 V → Calls Try.prog 13 #[.agg #[.int .i64 id, .int .i64 ld, .int .i64 ep, .int .i64 vr, .slice a1 isr.length c1, .slice a2 reps.length c2, .slice a3 add.length c3, .slice a4 rem.length c4, .int .i64 mn]] V fun e w' => e = .returned (.bool (rightB ⟨id, ld, ep, vr, isr, reps, add, rem, mn⟩)) ∧ Below W5.heap.size W5 w') := fun V hb => (rright_any (HPp.out V (hBB V hb))).mono fun e w' ⟨e1, e2⟩ => ⟨e1, hb.trans (e2.mono hb.size)⟩
  have J11 : Hid (∀ V, Below W5.heap.size W5 V → Calls Try.prog 11 #[.agg #[.int .i64 id, .int .i64 ld, .int .i64 ep, .int .i64 vr, .slice a1 isr.length c1, .slice a2 reps.length c2, .slice a3 add.length c3, .slice a4 rem.length c4, .int .i64 mn], .agg #[.int .i64 id', .int .i64 ld', .int .i64 ep', .int .i64 vr', .slice b1 isr'.length d1, .slice b2 reps'.length d2, .slice b3 add'.length d3, .slice b4 rem'.length d4, .int .i64 mn']] V fun e w' => e = .returned (.bool (sameP ⟨id, ld, ep, vr, isr, reps, add, rem, mn⟩ ⟨id', ld', ep', vr', isr', reps', add', rem', mn'⟩)) ∧ Below W5.heap.size W5 w') := fun V hb => (rsameP_any (HPp.out V (hBB V hb)) (HPq.out V (hBB V hb))).mono fun e w' ⟨e1, e2⟩ => ⟨e1, hb.trans (e2.mono hb.size)⟩
  have J15 : Hid (∀ V, Below W5.heap.size W5 V → Calls Try.prog 15 #[.agg #[.int .i64 id, .int .i64 ld, .int .i64 ep, .int .i64 vr, .slice a1 isr.length c1, .slice a2 reps.length c2, .slice a3 add.length c3, .slice a4 rem.length c4, .int .i64 mn]] V fun e w' => ∃ g1 h1 g2 h2 g3 h3 g4 h4, e = .returned (.agg #[.int .i64 id, .int .i64 ld, .int .i64 ep, .int .i64 vr, .slice g1 isr.length h1, .slice g2 reps.length h2, .slice g3 add.length h3, .slice g4 rem.length h4, .int .i64 mn]) ∧ Hid (PartM w' (.agg #[.int .i64 id, .int .i64 ld, .int .i64 ep, .int .i64 vr, .slice g1 isr.length h1, .slice g2 reps.length h2, .slice g3 add.length h3, .slice g4 rem.length h4, .int .i64 mn]) ⟨id, ld, ep, vr, isr, reps, add, rem, mn⟩) ∧ Below W5.heap.size W5 w') := fun V hb => (clone_any (HPp.out V (hBB V hb))).mono fun e w' ⟨v', e1, e2, e3, e4⟩ => by
    obtain ⟨g1, h1, g2, h2, g3, h3, g4, h4, rfl, _⟩ := e2.open
    exact ⟨g1, h1, g2, h2, g3, h3, g4, h4, e1, e2, hb.trans (e4.mono hb.size)⟩
  have J14 : Hid (∀ V va vb (B : Bool), Below W5.heap.size W5 V → ((va = .agg #[.int .i64 id, .int .i64 ld, .int .i64 ep, .int .i64 vr, .slice a1 isr.length c1, .slice a2 reps.length c2, .slice a3 add.length c3, .slice a4 rem.length c4, .int .i64 mn] ∧ vb = .agg #[.int .i64 id', .int .i64 ld', .int .i64 ep', .int .i64 vr', .slice b1 isr'.length d1, .slice b2 reps'.length d2, .slice b3 add'.length d3, .slice b4 rem'.length d4, .int .i64 mn'] ∧ B = sameP ⟨id, ld, ep, vr, isr, reps, add, rem, mn⟩ ⟨id', ld', ep', vr', isr', reps', add', rem', mn'⟩) ∨ (PartM V va ⟨id, ld, ep, vr, isr, reps, add, rem, mn⟩ ∧ vb = .agg #[.int .i64 id, .int .i64 ld, .int .i64 ep, .int .i64 vr, .slice a1 isr.length c1, .slice a2 reps.length c2, .slice a3 add.length c3, .slice a4 rem.length c4, .int .i64 mn] ∧ B = true)) → Calls Try.prog 14 #[va, vb] V fun e w' => e = .returned (.bool B) ∧ Below W5.heap.size W5 w') := fun V va vb B hb hc => by
    rcases hc with ⟨rfl, rfl, rfl⟩ | ⟨hc, rfl, rfl⟩
    · exact (same_any (HPp.out V (hBB V hb)) (HPq.out V (hBB V hb))).mono fun e w' ⟨e1, e2⟩ => ⟨e1, hb.trans (e2.mono hb.size)⟩
    · exact (same_any hc (HPp.out V (hBB V hb))).mono fun e w' ⟨e1, e2⟩ => ⟨by rw [e1, sameP_refl], hb.trans (e2.mono hb.size)⟩
  generalize rightB ⟨id, ld, ep, vr, isr, reps, add, rem, mn⟩ = BR at *
  generalize sameP ⟨id, ld, ep, vr, isr, reps, add, rem, mn⟩ ⟨id', ld', ep', vr', isr', reps', add', rem', mn'⟩ = BS at *
  clear hBB HPp HPq
  have cR : (BR == BR) = true := by cases BR <;> rfl
  have cS : (BS == BS) = true := by cases BS <;> rfl
  have cE : (re == re) = true := by simp
  have k0 := cell_blk HD5.out.x 0 _ rfl
  have k1 := cell_blk HD5.out.x 1 _ rfl
  have k2 := cell_blk HD5.out.x 2 _ rfl
  have k3 := cell_blk HD5.out.x 3 _ rfl
  have k4 := cell_blk HD5.out.x 4 _ rfl
  have k5 := cell_blk HD5.out.x 5 _ rfl
  have k6 := cell_blk HD5.out.x 6 _ rfl
  have k7 := cell_blk HD5.out.x 7 _ rfl
  have k8 := cell_blk HD5.out.x 8 _ rfl
  have m0 := cell_blk HD5.out.y 0 _ rfl
  have m1 := cell_blk HD5.out.y 1 _ rfl
  have m2 := cell_blk HD5.out.y 2 _ rfl
  have m3 := cell_blk HD5.out.y 3 _ rfl
  have m4 := cell_blk HD5.out.y 4 _ rfl
  have m5 := cell_blk HD5.out.y 5 _ rfl
  have m6 := cell_blk HD5.out.y 6 _ rfl
  have m7 := cell_blk HD5.out.y 7 _ rfl
  have m8 := cell_blk HD5.out.y 8 _ rfl
  go_wp2_with fail
  go_region_held3 (fun w' => w'.cell? ⟨w.heap.size, 0, none⟩ = some (.int .i64 id) ∧ w'.cell? ⟨w.heap.size, 1, none⟩ = some (.int .i64 ld) ∧ w'.cell? ⟨w.heap.size, 2, none⟩ = some (.int .i64 ep) ∧ w'.cell? ⟨w.heap.size, 3, none⟩ = some (.int .i64 vr) ∧ w'.cell? ⟨w.heap.size, 4, none⟩ = some (.slice a1 isr.length c1) ∧ w'.cell? ⟨w.heap.size, 5, none⟩ = some (.slice a2 reps.length c2) ∧ w'.cell? ⟨w.heap.size, 6, none⟩ = some (.slice a3 add.length c3) ∧ w'.cell? ⟨w.heap.size, 7, none⟩ = some (.slice a4 rem.length c4) ∧ w'.cell? ⟨w.heap.size, 8, none⟩ = some (.int .i64 mn) ∧ w'.cell? ⟨w.heap.size + 1, 0, none⟩ = some (.int .i64 id') ∧ w'.cell? ⟨w.heap.size + 1, 1, none⟩ = some (.int .i64 ld') ∧ w'.cell? ⟨w.heap.size + 1, 2, none⟩ = some (.int .i64 ep') ∧ w'.cell? ⟨w.heap.size + 1, 3, none⟩ = some (.int .i64 vr') ∧ w'.cell? ⟨w.heap.size + 1, 4, none⟩ = some (.slice b1 isr'.length d1) ∧ w'.cell? ⟨w.heap.size + 1, 5, none⟩ = some (.slice b2 reps'.length d2) ∧ w'.cell? ⟨w.heap.size + 1, 6, none⟩ = some (.slice b3 add'.length d3) ∧ w'.cell? ⟨w.heap.size + 1, 7, none⟩ = some (.slice b4 rem'.length d4) ∧ w'.cell? ⟨w.heap.size + 1, 8, none⟩ = some (.int .i64 mn')) (go_keep) (first
    | (go_at_call 12; refine (J12.out _ (by first | exact Below.refl _ _ | exact (Below.refl _ _).drew | exact HB9.out | exact HB9.out.drew)).mono ?_; rintro e V9 ⟨rfl, hb⟩; have HB9 := hid hb; have HD9 := hid (HD5.out.next hb); clear hb; have k0 := cell_blk HD9.out.x 0 _ rfl; have k1 := cell_blk HD9.out.x 1 _ rfl; have k2 := cell_blk HD9.out.x 2 _ rfl; have k3 := cell_blk HD9.out.x 3 _ rfl; have k4 := cell_blk HD9.out.x 4 _ rfl; have k5 := cell_blk HD9.out.x 5 _ rfl; have k6 := cell_blk HD9.out.x 6 _ rfl; have k7 := cell_blk HD9.out.x 7 _ rfl; have k8 := cell_blk HD9.out.x 8 _ rfl; have m0 := cell_blk HD9.out.y 0 _ rfl; have m1 := cell_blk HD9.out.y 1 _ rfl; have m2 := cell_blk HD9.out.y 2 _ rfl; have m3 := cell_blk HD9.out.y 3 _ rfl; have m4 := cell_blk HD9.out.y 4 _ rfl; have m5 := cell_blk HD9.out.y 5 _ rfl; have m6 := cell_blk HD9.out.y 6 _ rfl; have m7 := cell_blk HD9.out.y 7 _ rfl; have m8 := cell_blk HD9.out.y 8 _ rfl)
    | (go_at_call 13; refine (J13.out _ (by first | exact Below.refl _ _ | exact (Below.refl _ _).drew | exact HB9.out | exact HB9.out.drew)).mono ?_; rintro e V9 ⟨rfl, hb⟩; have HB9 := hid hb; have HD9 := hid (HD5.out.next hb); clear hb; have k0 := cell_blk HD9.out.x 0 _ rfl; have k1 := cell_blk HD9.out.x 1 _ rfl; have k2 := cell_blk HD9.out.x 2 _ rfl; have k3 := cell_blk HD9.out.x 3 _ rfl; have k4 := cell_blk HD9.out.x 4 _ rfl; have k5 := cell_blk HD9.out.x 5 _ rfl; have k6 := cell_blk HD9.out.x 6 _ rfl; have k7 := cell_blk HD9.out.x 7 _ rfl; have k8 := cell_blk HD9.out.x 8 _ rfl; have m0 := cell_blk HD9.out.y 0 _ rfl; have m1 := cell_blk HD9.out.y 1 _ rfl; have m2 := cell_blk HD9.out.y 2 _ rfl; have m3 := cell_blk HD9.out.y 3 _ rfl; have m4 := cell_blk HD9.out.y 4 _ rfl; have m5 := cell_blk HD9.out.y 5 _ rfl; have m6 := cell_blk HD9.out.y 6 _ rfl; have m7 := cell_blk HD9.out.y 7 _ rfl; have m8 := cell_blk HD9.out.y 8 _ rfl)
    | (go_at_call 11; refine (J11.out _ (by first | exact Below.refl _ _ | exact (Below.refl _ _).drew | exact HB9.out | exact HB9.out.drew)).mono ?_; rintro e V9 ⟨rfl, hb⟩; have HB9 := hid hb; have HD9 := hid (HD5.out.next hb); clear hb; have k0 := cell_blk HD9.out.x 0 _ rfl; have k1 := cell_blk HD9.out.x 1 _ rfl; have k2 := cell_blk HD9.out.x 2 _ rfl; have k3 := cell_blk HD9.out.x 3 _ rfl; have k4 := cell_blk HD9.out.x 4 _ rfl; have k5 := cell_blk HD9.out.x 5 _ rfl; have k6 := cell_blk HD9.out.x 6 _ rfl; have k7 := cell_blk HD9.out.x 7 _ rfl; have k8 := cell_blk HD9.out.x 8 _ rfl; have m0 := cell_blk HD9.out.y 0 _ rfl; have m1 := cell_blk HD9.out.y 1 _ rfl; have m2 := cell_blk HD9.out.y 2 _ rfl; have m3 := cell_blk HD9.out.y 3 _ rfl; have m4 := cell_blk HD9.out.y 4 _ rfl; have m5 := cell_blk HD9.out.y 5 _ rfl; have m6 := cell_blk HD9.out.y 6 _ rfl; have m7 := cell_blk HD9.out.y 7 _ rfl; have m8 := cell_blk HD9.out.y 8 _ rfl)
    | (go_at_call 15; refine (J15.out _ (by first | exact Below.refl _ _ | exact (Below.refl _ _).drew | exact HB9.out | exact HB9.out.drew)).mono ?_; rintro e V9 ⟨g1, h1, g2, h2, g3, h3, g4, h4, rfl, hC, hb⟩; have HB9 := hid hb; have HD9 := hid (HD5.out.next hb); clear hb; have HC := hC; clear hC; have k0 := cell_blk HD9.out.x 0 _ rfl; have k1 := cell_blk HD9.out.x 1 _ rfl; have k2 := cell_blk HD9.out.x 2 _ rfl; have k3 := cell_blk HD9.out.x 3 _ rfl; have k4 := cell_blk HD9.out.x 4 _ rfl; have k5 := cell_blk HD9.out.x 5 _ rfl; have k6 := cell_blk HD9.out.x 6 _ rfl; have k7 := cell_blk HD9.out.x 7 _ rfl; have k8 := cell_blk HD9.out.x 8 _ rfl; have m0 := cell_blk HD9.out.y 0 _ rfl; have m1 := cell_blk HD9.out.y 1 _ rfl; have m2 := cell_blk HD9.out.y 2 _ rfl; have m3 := cell_blk HD9.out.y 3 _ rfl; have m4 := cell_blk HD9.out.y 4 _ rfl; have m5 := cell_blk HD9.out.y 5 _ rfl; have m6 := cell_blk HD9.out.y 6 _ rfl; have m7 := cell_blk HD9.out.y 7 _ rfl; have m8 := cell_blk HD9.out.y 8 _ rfl)
    | (go_at_call 14; refine (J14.out _ _ _ _ (by first | exact Below.refl _ _ | exact (Below.refl _ _).drew | exact HB9.out | exact HB9.out.drew) (by first | exact .inl ⟨rfl, rfl, rfl⟩ | exact .inr ⟨HC.out, rfl, rfl⟩ | exact .inr ⟨HC.out.under (Below.refl _ _).drew, rfl, rfl⟩)).mono ?_; rintro e V9 ⟨rfl, hb⟩; have HB9 := hid hb; have HD9 := hid (HD5.out.next hb); clear hb; have k0 := cell_blk HD9.out.x 0 _ rfl; have k1 := cell_blk HD9.out.x 1 _ rfl; have k2 := cell_blk HD9.out.x 2 _ rfl; have k3 := cell_blk HD9.out.x 3 _ rfl; have k4 := cell_blk HD9.out.x 4 _ rfl; have k5 := cell_blk HD9.out.x 5 _ rfl; have k6 := cell_blk HD9.out.x 6 _ rfl; have k7 := cell_blk HD9.out.x 7 _ rfl; have k8 := cell_blk HD9.out.x 8 _ rfl; have m0 := cell_blk HD9.out.y 0 _ rfl; have m1 := cell_blk HD9.out.y 1 _ rfl; have m2 := cell_blk HD9.out.y 2 _ rfl; have m3 := cell_blk HD9.out.y 3 _ rfl; have m4 := cell_blk HD9.out.y 4 _ rfl; have m5 := cell_blk HD9.out.y 5 _ rfl; have m6 := cell_blk HD9.out.y 6 _ rfl; have m7 := cell_blk HD9.out.y 7 _ rfl; have m8 := cell_blk HD9.out.y 8 _ rfl)
    | fail)
  all_goals
    go_wp2_with fail
    go_ret
    first | exact ⟨rfl, HD5.out.b.trans (HB9.out.mono HD5.out.b.size)⟩ | exact ⟨rfl, HD5.out.b.trans (HB9.out.drew.mono HD5.out.b.size)⟩
end Go.Proofs.Ytfahepeemodcbaa

namespace Go.Proofs.Ytfahepeemodcbaa
open Go.ChangeShapes Go.WideShapes Go.ChangeAt Go.RowKit
set_option linter.unusedVariables false

set_option maxRecDepth 100000 in
theorem moveDoes_lifted (os : Os) (started : os.Started) (H : Type) (enc : TypeId × Value → H) :
    ReturnsInHanded {} Try.checked os 3 .any (Rows.moveDoesSpec.pre6 enc Try.prog Try.f3 Rows.moveDoesRow.domain false) (Rows.moveDoesSpec.post enc Try.prog Try.f3 false true false false) := by
  refine returnsInHanded_of_change_sized (C := Try.checked) own started (by kernel_rfl) Try.func3
    (ChangeSpec.witness6 (enc := enc) (C := Try.checked) false ⟨#[], #[.agg #[.int .i64 0, .int .i64 0, .int .i64 0, .int .i64 0, .slice none 0 0, .slice none 0 0, .slice none 0 0, .slice none 0 0, .int .i64 0], .agg #[.int .i64 0, .int .i64 0, .int .i64 0, .int .i64 0, .slice none 0 0, .slice none 0 0, .slice none 0 0, .slice none 0 0, .int .i64 0], .agg #[.int .i64 0, .int .i64 0, .int .i64 0, .int .i64 0, .slice none 0 0, .slice none 0 0]], []⟩ 8 (by kernel_rfl) (by kernel_rfl) (by kernel_rfl) (by kernel_rfl)) ?_
  intro W base args ds gs before hval0 hW hcnd hsz0 _
  have hval : ∀ (j : Nat) t v, Try.f3.params[j]? = some t → args[j]? = some v → Value.okWide Try.prog W .any base t v := hval0
  have hW' := hW
  obtain ⟨p, q, hA0, hV, rfl, hfz, hnd⟩ := hW
  have hA : DataW.TrodAll enc Try.prog W 0 (fun _ => true) true Try.f3.params.toList args.toList ds p := hA0
  have hsz : (DataW.weightsEach Try.prog (Try.f3.params.toList ++ Rows.moveDoesSpec.plain.varTypes Try.prog) (ds ++ gs)).all (· ≤ reachBytes) = true := hsz0
  rw [Try.params3] at hA hval hsz
  obtain ⟨v0, vs0, d0, ds0, p0, q0, hargs, rfl, rfl, h0, r0⟩ := trodAll_cons hA
  obtain ⟨v1, vs1, d1, ds1, p1, q1, rfl, rfl, rfl, h1, r1⟩ := trodAll_cons r0
  obtain ⟨v2, vs2, d2, ds2, p2, q2, rfl, rfl, rfl, h2, r2⟩ := trodAll_cons r1
  obtain ⟨rfl, rfl, rfl⟩ := trodAll_nil r2
  obtain rfl : args = #[v0, v1, v2] := by cases args; simp_all
  obtain ⟨rfl, rfl⟩ := trodVars_none hV
  have k0 := h0
  have lt0 : ∀ x ∈ p0, x.block < W.heap.size := by obtain ⟨m, hm⟩ := k0; exact DataW.trod_lt m _ _ _ hm
  obtain ⟨g0, ec0, _⟩ := okWide_struct Try.underlying24 (hval 0 24 v0 rfl rfl)
  obtain ⟨z0, w0⟩ := state_of ec0 h0 (light_of hsz 0 rfl rfl)
  have k1 := h1
  have lt1 : ∀ x ∈ p1, x.block < W.heap.size := by obtain ⟨m, hm⟩ := k1; exact DataW.trod_lt m _ _ _ hm
  obtain ⟨g1, ec1, _⟩ := okWide_struct Try.underlying24 (hval 1 24 v1 rfl rfl)
  obtain ⟨z1, w1⟩ := state_of ec1 h1 (light_of hsz 1 rfl rfl)
  have k2 := h2
  have lt2 : ∀ x ∈ p2, x.block < W.heap.size := by obtain ⟨m, hm⟩ := k2; exact DataW.trod_lt m _ _ _ hm
  obtain ⟨g2, ec2, _⟩ := okWide_struct Try.underlying26 (hval 2 26 v2 rfl rfl)
  obtain ⟨z2, w2⟩ := call_of ec2 h2 (light_of hsz 2 rfl rfl)
  clear hA0 hval0
  have hwalk := does_walk w0 w1 w2
  refine hwalk.mono fun e W' ⟨he, bel⟩ => ?_
  subst he
  exact ⟨_, rfl, _, _, _, [], _, [], hW', trodAll_mk1 (shut_bool Try.underlying4 _), (trodAll_cons_mk (Below.trod laidOut (by kernel_rfl) (of_decide_eq_true (by kernel_rfl)) k0 bel lt0) (trodAll_cons_mk (Below.trod laidOut (by kernel_rfl) (of_decide_eq_true (by kernel_rfl)) k1 bel lt1) (trodAll_cons_mk (Below.trod laidOut (by kernel_rfl) (of_decide_eq_true (by kernel_rfl)) k2 bel lt2) trodAll_mk0))), rfl, bel.frame _, fun h => by cases h⟩

theorem moveDoes_over : Rows.moveDoesRow.holds Try.pinned (OpenSpec.ofChange Rows.moveDoesSpec) :=
  OpenClaim.holds_of_wide 3 Try.f3 rfl rfl rfl rfl rfl rfl rfl ⟨rfl, rfl, rfl, rfl, rfl⟩ rfl rfl rfl rfl rfl (by kernel_rfl) Try.func3 (by kernel_rfl)
    (of_decide_eq_true (by kernel_rfl)) (by unfold Func.isWrapper; first | (rw [if_pos (by decide +kernel)]; kernel_rfl) | (rw [if_neg (by decide +kernel)]; exact ⟨rfl, rfl⟩))
    (fun os started H enc _ => moveDoes_lifted os started H enc)

/- The statement. -/
theorem moveDoes_proved : Rows.MoveDoesSaid := moveDoes_over
#print axioms moveDoes_proved
end Go.Proofs.Ytfahepeemodcbaa
