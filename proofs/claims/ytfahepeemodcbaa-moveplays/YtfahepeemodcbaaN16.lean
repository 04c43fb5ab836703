/- Both sides of a decision: one. -/
import Derived.Test.YtfahepeemodcbaaN13
import Derived.Test.YtfahepeemodcbaaN14
import Derived.Test.YtfahepeemodcbaaN15
import Derived.Test.YtfahepeemodcbaaM16
namespace Go.Proofs.Ytfahepeemodcbaa
open Go.RowKit Go.Maps
set_option linter.unusedSimpArgs false
set_option linter.unusedVariables false
set_option maxRecDepth 100000

/-- Four boxes at a world's end. -/
structure Qua (w W : World) (cs os zs ys : Array Value) : Prop where
  x : W.heap[w.heap.size]? = some (.cells cs 24)
  o : W.heap[w.heap.size + 1]? = some (.cells os 26)
  z : W.heap[w.heap.size + 2]? = some (.cells zs 24)
  y : W.heap[w.heap.size + 3]? = some (.cells ys 24)
  b : Below w.heap.size w W
theorem qua_new (w : World) (cs os zs ys : Array Value) : Qua w ((((w.alloc (.cells cs 24)).alloc (.cells os 26)).alloc (.cells zs 24)).alloc (.cells ys 24)) cs os zs ys := by
  have T := tri_new w cs os zs
  have hs : (((w.alloc (.cells cs 24)).alloc (.cells os 26)).alloc (.cells zs 24)).heap.size = w.heap.size + 3 := by simp
  generalize ((w.alloc (.cells cs 24)).alloc (.cells os 26)).alloc (.cells zs 24) = W at *
  have hb : Below W.heap.size W (W.alloc (.cells ys 24)) := (Below.refl _ _).alloc (Nat.le_refl _) _
  have hn := heap_alloc_new W (.cells ys 24)
  rw [hs] at hn
  exact ⟨blk_under T.x hb, blk_under T.o hb, blk_under T.z hb, hn, T.b.trans (hb.mono T.b.size)⟩
theorem Qua.next {w W W' : World} {cs os zs ys : Array Value} (h : Qua w W cs os zs ys) (hb : Below W.heap.size W W') : Qua w W' cs os zs ys := ⟨blk_under h.x hb, blk_under h.o hb, blk_under h.z hb, blk_under h.y hb, h.b.trans (hb.mono h.b.size)⟩
/-- What both sides answer. -/
def OneR (w : World) (r : Pt × Int) (e : Ending) (w' : World) : Prop := ∃ va vb, e = .returned (.tuple #[va, .int .i64 r.2, vb, .int .i64 r.2]) ∧ PartM w' va r.1 ∧ InP (fun b => w.heap.size ≤ b) va r.1 ∧ PartM w' vb r.1 ∧ InP (fun b => w.heap.size ≤ b) vb r.1 ∧ Below w.heap.size w w'
set_option maxHeartbeats 25600000 in
theorem one_any {w : World} {v ov : Value} {p : Pt} {o : Opn} (h : PartM w v p) (ho : OpM w ov o) : Calls Try.prog 10 #[v, ov] w fun e w' => OneR w (didP p o) e w' := by
  obtain ⟨id, ld, ep, vr, isr, reps, add, rem, mn⟩ := p
  obtain ⟨a1, c1, a2, c2, a3, c3, a4, c4, rfl, q1, q2, q3, q4, i0, i1, i2, i3, i4⟩ := h.open
  simp only at q1 q2 q3 q4 i0 i1 i2 i3 i4 ⊢
  have Q1 := hid q1
  have Q2 := hid q2
  have Q3 := hid q3
  have Q4 := hid q4
  clear h q1 q2 q3 q4
  obtain ⟨ok, oa, ob, oc, ol, ou⟩ := o
  obtain ⟨lv, uv, rfl, hl, hu, j0, j1, j2, j3⟩ := ho
  simp only at hl hu j0 j1 j2 j3
  obtain ⟨la, lc, rfl, _⟩ := hl.shape
  obtain ⟨ua, uc, rfl, _⟩ := hu.shape
  have QL := hid hl
  have QU := hid hu
  have HT0 := hid (qua_new w #[.int .i64 id, .int .i64 ld, .int .i64 ep, .int .i64 vr, .slice a1 isr.length c1, .slice a2 reps.length c2, .slice a3 add.length c3, .slice a4 rem.length c4, .int .i64 mn] #[.int .i64 ok, .int .i64 oa, .int .i64 ob, .int .i64 oc, .slice la ol.length lc, .slice ua ou.length uc] #[.int .i64 0, .int .i64 0, .int .i64 0, .int .i64 0, .slice none 0 0, .slice none 0 0, .slice none 0 0, .slice none 0 0, .int .i64 0] #[.int .i64 0, .int .i64 0, .int .i64 0, .int .i64 0, .slice none 0 0, .slice none 0 0, .slice none 0 0, .slice none 0 0, .int .i64 0])
  have HP : Hid (∀ W, Below w.heap.size w W → PartM W (.agg #[.int .i64 id, .int .i64 ld, .int .i64 ep, .int .i64 vr, .slice a1 isr.length c1, .slice a2 reps.length c2, .slice a3 add.length c3, .slice a4 rem.length c4, .int .i64 mn]) ⟨id, ld, ep, vr, isr, reps, add, rem, mn⟩) := fun W hb => ⟨_, _, _, _, rfl, Q1.out.under hb, Q2.out.under hb, Q3.out.under hb, Q4.out.under hb, i0, i1, i2, i3, i4⟩
  have HD : Hid (didP ⟨id, ld, ep, vr, isr, reps, add, rem, mn⟩ ⟨ok, oa, ob, oc, ol, ou⟩ = if pickI ok 7 = 0 then electP ⟨id, ld, ep, vr, isr, reps, add, rem, mn⟩ oa else if pickI ok 7 = 1 then fenceP ⟨id, ld, ep, vr, isr, reps, add, rem, mn⟩ oa ou else if pickI ok 7 = 2 then backP ⟨id, ld, ep, vr, isr, reps, add, rem, mn⟩ oa else if pickI ok 7 = 3 then alterP ⟨id, ld, ep, vr, isr, reps, add, rem, mn⟩ oa ob oc ol ou else if pickI ok 7 = 4 then beginP ⟨id, ld, ep, vr, isr, reps, add, rem, mn⟩ ol ou else if pickI ok 7 = 6 then finishP ⟨id, ld, ep, vr, isr, reps, add, rem, mn⟩ ou else cancelP ⟨id, ld, ep, vr, isr, reps, add, rem, mn⟩ ou) := rfl
  have G16 := hid (fun W => pick_any ok 7 W j0 (by omega) (by omega))
  obtain ⟨hk1, hk2⟩ := pickI_range ok 7 (by omega)
  generalize didP ⟨id, ld, ep, vr, isr, reps, add, rem, mn⟩ ⟨ok, oa, ob, oc, ol, ou⟩ = r at *
  generalize pickI ok 7 = K at *
  obtain ⟨⟨rid, rld, rep, rvr, rl1, rl2, rl3, rl4, rmn⟩, re⟩ := r
  clear hl hu i0 i1 i2 i3 i4 Q1 Q2 Q3 Q4
  have hK : K = 0 ∨ K = 1 ∨ K = 2 ∨ K = 3 ∨ K = 4 ∨ K = 5 ∨ K = 6 := by omega
  clear hk1 hk2
  go_enter Try.func10, Try.ntmps10
  go_wp2_with fail
  generalize (((w.alloc (.cells #[.int .i64 id, .int .i64 ld, .int .i64 ep, .int .i64 vr, .slice a1 isr.length c1, .slice a2 reps.length c2, .slice a3 add.length c3, .slice a4 rem.length c4, .int .i64 mn] 24)).alloc (.cells #[.int .i64 ok, .int .i64 oa, .int .i64 ob, .int .i64 oc, .slice la ol.length lc, .slice ua ou.length uc] 26)).alloc (.cells #[.int .i64 0, .int .i64 0, .int .i64 0, .int .i64 0, .slice none 0 0, .slice none 0 0, .slice none 0 0, .slice none 0 0, .int .i64 0] 24)).alloc (.cells #[.int .i64 0, .int .i64 0, .int .i64 0, .int .i64 0, .slice none 0 0, .slice none 0 0, .slice none 0 0, .slice none 0 0, .int .i64 0] 24) = W0 at *
  refine (G16.out _).mono ?_
  rintro e W1 ⟨rfl, rfl⟩
  have k0 := cell_blk HT0.out.x 0 _ rfl
  have k1 := cell_blk HT0.out.x 1 _ rfl
  have k2 := cell_blk HT0.out.x 2 _ rfl
  have k3 := cell_blk HT0.out.x 3 _ rfl
  have k4 := cell_blk HT0.out.x 4 _ rfl
  have k5 := cell_blk HT0.out.x 5 _ rfl
  have k6 := cell_blk HT0.out.x 6 _ rfl
  have k7 := cell_blk HT0.out.x 7 _ rfl
  have k8 := cell_blk HT0.out.x 8 _ rfl
  have m0 := cell_blk HT0.out.o 0 _ rfl
  have m1 := cell_blk HT0.out.o 1 _ rfl
  have m2 := cell_blk HT0.out.o 2 _ rfl
  have m3 := cell_blk HT0.out.o 3 _ rfl
  have m4 := cell_blk HT0.out.o 4 _ rfl
  have m5 := cell_blk HT0.out.o 5 _ rfl
  rcases hK with rfl | rfl | rfl | rfl | rfl | rfl | rfl
  · have HDK : Hid ((⟨rid, rld, rep, rvr, rl1, rl2, rl3, rl4, rmn⟩, re) = electP ⟨id, ld, ep, vr, isr, reps, add, rem, mn⟩ oa) := by show _ = _; rw [HD.out]; simp
    have GA : Hid (∀ W, Below w.heap.size w W → Calls Try.prog 28 #[.agg #[.int .i64 id, .int .i64 ld, .int .i64 ep, .int .i64 vr, .slice a1 isr.length c1, .slice a2 reps.length c2, .slice a3 add.length c3, .slice a4 rem.length c4, .int .i64 mn], .int .i64 oa] W fun e w' => Res (fun b => W.heap.size ≤ b) W (⟨rid, rld, rep, rvr, rl1, rl2, rl3, rl4, rmn⟩, re) e w') := fun W hb => by rw [HDK.out]; exact elect_any (HP.out W hb) oa j1
    have GB : Hid (∀ W, Below w.heap.size w W → Calls Try.prog 29 #[.agg #[.int .i64 id, .int .i64 ld, .int .i64 ep, .int .i64 vr, .slice a1 isr.length c1, .slice a2 reps.length c2, .slice a3 add.length c3, .slice a4 rem.length c4, .int .i64 mn], .int .i64 oa] W fun e w' => Res (fun b => W.heap.size ≤ b) W (⟨rid, rld, rep, rvr, rl1, rl2, rl3, rl4, rmn⟩, re) e w') := fun W hb => by rw [HDK.out]; exact relect_any (HP.out W hb) oa j1
    clear HD HDK
    go_wp2_with fail
    refine (GA.out _ HT0.out.b).mono ?_
    rintro e W2 ⟨v', rfl, h1, h2, hb⟩
    have HSZ : Hid (w.heap.size + 3 < W0.heap.size) := lt_blk HT0.out.y
    have HIA := hid (h2.mono (Y := fun b => w.heap.size + 4 ≤ b) fun b hx => by have := HSZ.out; omega)
    obtain ⟨x1, y1, x2, y2, x3, y3, x4, y4, rfl, _⟩ := h1.open
    have H1 : Hid (PartM W2 (.agg #[.int .i64 rid, .int .i64 rld, .int .i64 rep, .int .i64 rvr, .slice x1 rl1.length y1, .slice x2 rl2.length y2, .slice x3 rl3.length y3, .slice x4 rl4.length y4, .int .i64 rmn]) ⟨rid, rld, rep, rvr, rl1, rl2, rl3, rl4, rmn⟩) := h1
    have HAi : Hid (InP (fun b => w.heap.size + 4 ≤ b) (.agg #[.int .i64 rid, .int .i64 rld, .int .i64 rep, .int .i64 rvr, .slice x1 rl1.length y1, .slice x2 rl2.length y2, .slice x3 rl3.length y3, .slice x4 rl4.length y4, .int .i64 rmn]) ⟨rid, rld, rep, rvr, rl1, rl2, rl3, rl4, rmn⟩) := HIA.out
    have HTb := hid (HT0.out.next hb)
    have hbx := hb
    clear h1 h2 HIA k0 k1 k2 k3 k4 k5 k6 k7 k8 m0 m1 m2 m3 m4 m5
    go_upto_region 4 with fail
    have hA : Below W2.heap.size W2 (W2.alloc (.cells #[.int .i64 rid, .int .i64 rld, .int .i64 rep, .int .i64 rvr, .slice x1 rl1.length y1, .slice x2 rl2.length y2, .slice x3 rl3.length y3, .slice x4 rl4.length y4, .int .i64 rmn] 24)) := (Below.refl _ _).alloc (Nat.le_refl _) _
    have HT3 := hid (HTb.out.next hA)
    have HA := hid (H1.out.under hA)
    have HAq : Hid ((W2.alloc (.cells #[.int .i64 rid, .int .i64 rld, .int .i64 rep, .int .i64 rvr, .slice x1 rl1.length y1, .slice x2 rl2.length y2, .slice x3 rl3.length y3, .slice x4 rl4.length y4, .int .i64 rmn] 24)).heap[W2.heap.size]? = some (.cells #[.int .i64 rid, .int .i64 rld, .int .i64 rep, .int .i64 rvr, .slice x1 rl1.length y1, .slice x2 rl2.length y2, .slice x3 rl3.length y3, .slice x4 rl4.length y4, .int .i64 rmn] 24)) := heap_alloc_new _ _
    have HAn : Hid (w.heap.size + 4 ≤ W2.heap.size) := by show _ ≤ _; have := lt_blk HTb.out.y; omega
    clear hA hb hbx HTb H1 HSZ
    generalize W2.alloc (.cells #[.int .i64 rid, .int .i64 rld, .int .i64 rep, .int .i64 rvr, .slice x1 rl1.length y1, .slice x2 rl2.length y2, .slice x3 rl3.length y3, .slice x4 rl4.length y4, .int .i64 rmn] 24) = W3 at *
    generalize W2.heap.size = q1 at *
    have k0 := cell_blk HT3.out.x 0 _ rfl
    have k1 := cell_blk HT3.out.x 1 _ rfl
    have k2 := cell_blk HT3.out.x 2 _ rfl
    have k3 := cell_blk HT3.out.x 3 _ rfl
    have k4 := cell_blk HT3.out.x 4 _ rfl
    have k5 := cell_blk HT3.out.x 5 _ rfl
    have k6 := cell_blk HT3.out.x 6 _ rfl
    have k7 := cell_blk HT3.out.x 7 _ rfl
    have k8 := cell_blk HT3.out.x 8 _ rfl
    have m0 := cell_blk HT3.out.o 0 _ rfl
    have m1 := cell_blk HT3.out.o 1 _ rfl
    have m2 := cell_blk HT3.out.o 2 _ rfl
    have m3 := cell_blk HT3.out.o 3 _ rfl
    have m4 := cell_blk HT3.out.o 4 _ rfl
    have m5 := cell_blk HT3.out.o 5 _ rfl
    go_wp2_with fail
    refine (GB.out _ HT3.out.b).mono ?_
    rintro e W4 ⟨v', rfl, h1, h2, hb⟩
    have HSZ : Hid (w.heap.size + 3 < W3.heap.size) := lt_blk HT3.out.y
    have HIA := hid (h2.mono (Y := fun b => w.heap.size + 4 ≤ b) fun b hx => by have := HSZ.out; omega)
    obtain ⟨t1, u1, t2, u2, t3, u3, t4, u4, rfl, _⟩ := h1.open
    have H1 : Hid (PartM W4 (.agg #[.int .i64 rid, .int .i64 rld, .int .i64 rep, .int .i64 rvr, .slice t1 rl1.length u1, .slice t2 rl2.length u2, .slice t3 rl3.length u3, .slice t4 rl4.length u4, .int .i64 rmn]) ⟨rid, rld, rep, rvr, rl1, rl2, rl3, rl4, rmn⟩) := h1
    have HBi : Hid (InP (fun b => w.heap.size + 4 ≤ b) (.agg #[.int .i64 rid, .int .i64 rld, .int .i64 rep, .int .i64 rvr, .slice t1 rl1.length u1, .slice t2 rl2.length u2, .slice t3 rl3.length u3, .slice t4 rl4.length u4, .int .i64 rmn]) ⟨rid, rld, rep, rvr, rl1, rl2, rl3, rl4, rmn⟩) := HIA.out
    have HTb := hid (HT3.out.next hb)
    have hbx := hb
    clear h1 h2 HIA k0 k1 k2 k3 k4 k5 k6 k7 k8 m0 m1 m2 m3 m4 m5
    go_upto_region 5 with fail
    have hA : Below W4.heap.size W4 (W4.alloc (.cells #[.int .i64 rid, .int .i64 rld, .int .i64 rep, .int .i64 rvr, .slice t1 rl1.length u1, .slice t2 rl2.length u2, .slice t3 rl3.length u3, .slice t4 rl4.length u4, .int .i64 rmn] 24)) := (Below.refl _ _).alloc (Nat.le_refl _) _
    have HT5 := hid (HTb.out.next hA)
    have HB := hid (H1.out.under hA)
    have HBq : Hid ((W4.alloc (.cells #[.int .i64 rid, .int .i64 rld, .int .i64 rep, .int .i64 rvr, .slice t1 rl1.length u1, .slice t2 rl2.length u2, .slice t3 rl3.length u3, .slice t4 rl4.length u4, .int .i64 rmn] 24)).heap[W4.heap.size]? = some (.cells #[.int .i64 rid, .int .i64 rld, .int .i64 rep, .int .i64 rvr, .slice t1 rl1.length u1, .slice t2 rl2.length u2, .slice t3 rl3.length u3, .slice t4 rl4.length u4, .int .i64 rmn] 24)) := heap_alloc_new _ _
    have HBn : Hid (w.heap.size + 4 ≤ W4.heap.size) := by show _ ≤ _; have := lt_blk HTb.out.y; omega
    have HA5 := hid ((HA.out.under hbx).under hA)
    have HAq5 := hid (blk_under (blk_under HAq.out hbx) hA)
    have HNE : Hid (q1 < W4.heap.size) := lt_blk (blk_under HAq.out hbx)
    clear hA hb hbx HTb H1 HSZ
    generalize W4.alloc (.cells #[.int .i64 rid, .int .i64 rld, .int .i64 rep, .int .i64 rvr, .slice t1 rl1.length u1, .slice t2 rl2.length u2, .slice t3 rl3.length u3, .slice t4 rl4.length u4, .int .i64 rmn] 24) = W5 at *
    generalize W4.heap.size = q2 at *
    have k0 := cell_blk HT5.out.x 0 _ rfl
    have k1 := cell_blk HT5.out.x 1 _ rfl
    have k2 := cell_blk HT5.out.x 2 _ rfl
    have k3 := cell_blk HT5.out.x 3 _ rfl
    have k4 := cell_blk HT5.out.x 4 _ rfl
    have k5 := cell_blk HT5.out.x 5 _ rfl
    have k6 := cell_blk HT5.out.x 6 _ rfl
    have k7 := cell_blk HT5.out.x 7 _ rfl
    have k8 := cell_blk HT5.out.x 8 _ rfl
    have m0 := cell_blk HT5.out.o 0 _ rfl
    have m1 := cell_blk HT5.out.o 1 _ rfl
    have m2 := cell_blk HT5.out.o 2 _ rfl
    have m3 := cell_blk HT5.out.o 3 _ rfl
    have m4 := cell_blk HT5.out.o 4 _ rfl
    have m5 := cell_blk HT5.out.o 5 _ rfl
    clear k0 k1 k2 k3 k4 k5 k6 k7 k8 m0 m1 m2 m3 m4 m5 HA HAq
    have hq1 := HAn.out
    have hq2 := HNE.out
    have hq3 := HBn.out
    have e1 : ¬ q1 = w.heap.size + 2 := by omega
    have e1' : ¬ w.heap.size + 2 = q1 := by omega
    have e2 : ¬ q1 = w.heap.size + 3 := by omega
    have e2' : ¬ w.heap.size + 3 = q1 := by omega
    have e3 : ¬ q2 = w.heap.size + 2 := by omega
    have e3' : ¬ w.heap.size + 2 = q2 := by omega
    have e4 : ¬ q2 = w.heap.size + 3 := by omega
    have e4' : ¬ w.heap.size + 3 = q2 := by omega
    have e5 : ¬ w.heap.size + 2 = w.heap.size + 3 := by omega
    have e5' : ¬ w.heap.size + 3 = w.heap.size + 2 := by omega
    clear hq1 hq2 hq3
    have g0 := cell_blk HAq5.out 0 _ rfl
    have g1 := cell_blk HAq5.out 1 _ rfl
    have g2 := cell_blk HAq5.out 2 _ rfl
    have g3 := cell_blk HAq5.out 3 _ rfl
    have g4 := cell_blk HAq5.out 4 _ rfl
    have g5 := cell_blk HAq5.out 5 _ rfl
    have g6 := cell_blk HAq5.out 6 _ rfl
    have g7 := cell_blk HAq5.out 7 _ rfl
    have g8 := cell_blk HAq5.out 8 _ rfl
    have h0 := cell_blk HBq.out 0 _ rfl
    have h1 := cell_blk HBq.out 1 _ rfl
    have h2 := cell_blk HBq.out 2 _ rfl
    have h3 := cell_blk HBq.out 3 _ rfl
    have h4 := cell_blk HBq.out 4 _ rfl
    have h5 := cell_blk HBq.out 5 _ rfl
    have h6 := cell_blk HBq.out 6 _ rfl
    have h7 := cell_blk HBq.out 7 _ rfl
    have h8 := cell_blk HBq.out 8 _ rfl
    have z0 := cell_blk HT5.out.z 0 _ rfl
    have z1 := cell_blk HT5.out.z 1 _ rfl
    have z2 := cell_blk HT5.out.z 2 _ rfl
    have z3 := cell_blk HT5.out.z 3 _ rfl
    have z4 := cell_blk HT5.out.z 4 _ rfl
    have z5 := cell_blk HT5.out.z 5 _ rfl
    have z6 := cell_blk HT5.out.z 6 _ rfl
    have z7 := cell_blk HT5.out.z 7 _ rfl
    have z8 := cell_blk HT5.out.z 8 _ rfl
    have yy0 := cell_blk HT5.out.y 0 _ rfl
    have yy1 := cell_blk HT5.out.y 1 _ rfl
    have yy2 := cell_blk HT5.out.y 2 _ rfl
    have yy3 := cell_blk HT5.out.y 3 _ rfl
    have yy4 := cell_blk HT5.out.y 4 _ rfl
    have yy5 := cell_blk HT5.out.y 5 _ rfl
    have yy6 := cell_blk HT5.out.y 6 _ rfl
    have yy7 := cell_blk HT5.out.y 7 _ rfl
    have yy8 := cell_blk HT5.out.y 8 _ rfl
    have fz := frz_blk HT5.out.z
    have fy := frz_blk HT5.out.y
    go_region_held3 (fun w' => w'.cell? ⟨q1, 0, none⟩ = some (.int .i64 rid) ∧ w'.cell? ⟨q1, 1, none⟩ = some (.int .i64 rld) ∧ w'.cell? ⟨q1, 2, none⟩ = some (.int .i64 rep) ∧ w'.cell? ⟨q1, 3, none⟩ = some (.int .i64 rvr) ∧ w'.cell? ⟨q1, 4, none⟩ = some (.slice x1 rl1.length y1) ∧ w'.cell? ⟨q1, 5, none⟩ = some (.slice x2 rl2.length y2) ∧ w'.cell? ⟨q1, 6, none⟩ = some (.slice x3 rl3.length y3) ∧ w'.cell? ⟨q1, 7, none⟩ = some (.slice x4 rl4.length y4) ∧ w'.cell? ⟨q1, 8, none⟩ = some (.int .i64 rmn) ∧ w'.cell? ⟨q2, 0, none⟩ = some (.int .i64 rid) ∧ w'.cell? ⟨q2, 1, none⟩ = some (.int .i64 rld) ∧ w'.cell? ⟨q2, 2, none⟩ = some (.int .i64 rep) ∧ w'.cell? ⟨q2, 3, none⟩ = some (.int .i64 rvr) ∧ w'.cell? ⟨q2, 4, none⟩ = some (.slice t1 rl1.length u1) ∧ w'.cell? ⟨q2, 5, none⟩ = some (.slice t2 rl2.length u2) ∧ w'.cell? ⟨q2, 6, none⟩ = some (.slice t3 rl3.length u3) ∧ w'.cell? ⟨q2, 7, none⟩ = some (.slice t4 rl4.length u4) ∧ w'.cell? ⟨q2, 8, none⟩ = some (.int .i64 rmn)) (go_keep) (fail)
    all_goals
      obtain ⟨o1, o2⟩ := nine_off W5 (w.heap.size + 2) (.int .i64 rid) (.int .i64 rld) (.int .i64 rep) (.int .i64 rvr) (.slice x1 rl1.length y1) (.slice x2 rl2.length y2) (.slice x3 rl3.length y3) (.slice x4 rl4.length y4) (.int .i64 rmn)
      have HZ6 := hid (nine_q HT5.out.z rfl (.int .i64 rid) (.int .i64 rld) (.int .i64 rep) (.int .i64 rvr) (.slice x1 rl1.length y1) (.slice x2 rl2.length y2) (.slice x3 rl3.length y3) (.slice x4 rl4.length y4) (.int .i64 rmn))
      have HY6 := hid ((o1 _ e5').trans HT5.out.y)
      have HB6 := hid (nine_below HT5.out.b (Nat.le_add_right _ 2) (.int .i64 rid) (.int .i64 rld) (.int .i64 rep) (.int .i64 rvr) (.slice x1 rl1.length y1) (.slice x2 rl2.length y2) (.slice x3 rl3.length y3) (.slice x4 rl4.length y4) (.int .i64 rmn))
      have HPA := hid (HA5.out.off (HAi.out.mono fun b hb => by omega) o1 o2)
      have HPB := hid (HB.out.off (HBi.out.mono fun b hb => by omega) o1 o2)
      clear o1 o2 g0 g1 g2 g3 g4 g5 g6 g7 g8 h0 h1 h2 h3 h4 h5 h6 h7 h8 z0 z1 z2 z3 z4 z5 z6 z7 z8 yy0 yy1 yy2 yy3 yy4 yy5 yy6 yy7 yy8 fz fy
      generalize (((((((((W5.setCell ⟨w.heap.size + 2, 0, none⟩ (.int .i64 rid)).setCell ⟨w.heap.size + 2, 1, none⟩ (.int .i64 rld)).setCell ⟨w.heap.size + 2, 2, none⟩ (.int .i64 rep)).setCell ⟨w.heap.size + 2, 3, none⟩ (.int .i64 rvr)).setCell ⟨w.heap.size + 2, 4, none⟩ (.slice x1 rl1.length y1)).setCell ⟨w.heap.size + 2, 5, none⟩ (.slice x2 rl2.length y2)).setCell ⟨w.heap.size + 2, 6, none⟩ (.slice x3 rl3.length y3)).setCell ⟨w.heap.size + 2, 7, none⟩ (.slice x4 rl4.length y4)).setCell ⟨w.heap.size + 2, 8, none⟩ (.int .i64 rmn)) = W6 at *
      obtain ⟨o1, o2⟩ := nine_off W6 (w.heap.size + 3) (.int .i64 rid) (.int .i64 rld) (.int .i64 rep) (.int .i64 rvr) (.slice t1 rl1.length u1) (.slice t2 rl2.length u2) (.slice t3 rl3.length u3) (.slice t4 rl4.length u4) (.int .i64 rmn)
      have HZ7 := hid ((o1 _ e5).trans HZ6.out)
      have HY7 := hid (nine_q HY6.out rfl (.int .i64 rid) (.int .i64 rld) (.int .i64 rep) (.int .i64 rvr) (.slice t1 rl1.length u1) (.slice t2 rl2.length u2) (.slice t3 rl3.length u3) (.slice t4 rl4.length u4) (.int .i64 rmn))
      have HB7 := hid (nine_below HB6.out (Nat.le_add_right _ 3) (.int .i64 rid) (.int .i64 rld) (.int .i64 rep) (.int .i64 rvr) (.slice t1 rl1.length u1) (.slice t2 rl2.length u2) (.slice t3 rl3.length u3) (.slice t4 rl4.length u4) (.int .i64 rmn))
      have HPA7 := hid (HPA.out.off (HAi.out.mono fun b hb => by omega) o1 o2)
      have HPB7 := hid (HPB.out.off (HBi.out.mono fun b hb => by omega) o1 o2)
      clear o1 o2
      generalize (((((((((W6.setCell ⟨w.heap.size + 3, 0, none⟩ (.int .i64 rid)).setCell ⟨w.heap.size + 3, 1, none⟩ (.int .i64 rld)).setCell ⟨w.heap.size + 3, 2, none⟩ (.int .i64 rep)).setCell ⟨w.heap.size + 3, 3, none⟩ (.int .i64 rvr)).setCell ⟨w.heap.size + 3, 4, none⟩ (.slice t1 rl1.length u1)).setCell ⟨w.heap.size + 3, 5, none⟩ (.slice t2 rl2.length u2)).setCell ⟨w.heap.size + 3, 6, none⟩ (.slice t3 rl3.length u3)).setCell ⟨w.heap.size + 3, 7, none⟩ (.slice t4 rl4.length u4)).setCell ⟨w.heap.size + 3, 8, none⟩ (.int .i64 rmn)) = W7 at *
      go_wp2_with fail
      have r0 := cell_blk HZ7.out 0 _ rfl
      have r1 := cell_blk HZ7.out 1 _ rfl
      have r2 := cell_blk HZ7.out 2 _ rfl
      have r3 := cell_blk HZ7.out 3 _ rfl
      have r4 := cell_blk HZ7.out 4 _ rfl
      have r5 := cell_blk HZ7.out 5 _ rfl
      have r6 := cell_blk HZ7.out 6 _ rfl
      have r7 := cell_blk HZ7.out 7 _ rfl
      have r8 := cell_blk HZ7.out 8 _ rfl
      have s0 := cell_blk HY7.out 0 _ rfl
      have s1 := cell_blk HY7.out 1 _ rfl
      have s2 := cell_blk HY7.out 2 _ rfl
      have s3 := cell_blk HY7.out 3 _ rfl
      have s4 := cell_blk HY7.out 4 _ rfl
      have s5 := cell_blk HY7.out 5 _ rfl
      have s6 := cell_blk HY7.out 6 _ rfl
      have s7 := cell_blk HY7.out 7 _ rfl
      have s8 := cell_blk HY7.out 8 _ rfl
      exact bodyPost_ret (v := .tuple #[.agg #[.int .i64 rid, .int .i64 rld, .int .i64 rep, .int .i64 rvr, .slice x1 rl1.length y1, .slice x2 rl2.length y2, .slice x3 rl3.length y3, .slice x4 rl4.length y4, .int .i64 rmn], .int .i64 re, .agg #[.int .i64 rid, .int .i64 rld, .int .i64 rep, .int .i64 rvr, .slice t1 rl1.length u1, .slice t2 rl2.length u2, .slice t3 rl3.length u3, .slice t4 rl4.length u4, .int .i64 rmn], .int .i64 re]) (by simp [results, Try.results10, go_sem, r0, r1, r2, r3, r4, r5, r6, r7, r8, s0, s1, s2, s3, s4, s5, s6, s7, s8]) rfl ⟨_, _, rfl, HPA7.out.under (Below.refl _ _).drew, HAi.out.mono fun b hb => by omega, HPB7.out.under (Below.refl _ _).drew, HBi.out.mono fun b hb => by omega, HB7.out.drew⟩
  · have HDK : Hid ((⟨rid, rld, rep, rvr, rl1, rl2, rl3, rl4, rmn⟩, re) = fenceP ⟨id, ld, ep, vr, isr, reps, add, rem, mn⟩ oa ou) := by show _ = _; rw [HD.out]; simp
    have GA : Hid (∀ W, Below w.heap.size w W → Calls Try.prog 25 #[.agg #[.int .i64 id, .int .i64 ld, .int .i64 ep, .int .i64 vr, .slice a1 isr.length c1, .slice a2 reps.length c2, .slice a3 add.length c3, .slice a4 rem.length c4, .int .i64 mn], .int .i64 oa, .slice ua ou.length uc] W fun e w' => Res (fun b => W.heap.size ≤ b) W (⟨rid, rld, rep, rvr, rl1, rl2, rl3, rl4, rmn⟩, re) e w') := fun W hb => by rw [HDK.out]; exact fence_any (HP.out W hb) oa j1 (QU.out.under hb)
    have GB : Hid (∀ W, Below w.heap.size w W → Calls Try.prog 30 #[.agg #[.int .i64 id, .int .i64 ld, .int .i64 ep, .int .i64 vr, .slice a1 isr.length c1, .slice a2 reps.length c2, .slice a3 add.length c3, .slice a4 rem.length c4, .int .i64 mn], .int .i64 oa, .slice ua ou.length uc] W fun e w' => Res (fun b => W.heap.size ≤ b) W (⟨rid, rld, rep, rvr, rl1, rl2, rl3, rl4, rmn⟩, re) e w') := fun W hb => by rw [HDK.out]; exact rfence_any (HP.out W hb) oa j1 (QU.out.under hb)
    clear HD HDK
    go_wp2_with fail
    refine (GA.out _ HT0.out.b).mono ?_
    rintro e W2 ⟨v', rfl, h1, h2, hb⟩
    have HSZ : Hid (w.heap.size + 3 < W0.heap.size) := lt_blk HT0.out.y
    have HIA := hid (h2.mono (Y := fun b => w.heap.size + 4 ≤ b) fun b hx => by have := HSZ.out; omega)
    obtain ⟨x1, y1, x2, y2, x3, y3, x4, y4, rfl, _⟩ := h1.open
    have H1 : Hid (PartM W2 (.agg #[.int .i64 rid, .int .i64 rld, .int .i64 rep, .int .i64 rvr, .slice x1 rl1.length y1, .slice x2 rl2.length y2, .slice x3 rl3.length y3, .slice x4 rl4.length y4, .int .i64 rmn]) ⟨rid, rld, rep, rvr, rl1, rl2, rl3, rl4, rmn⟩) := h1
    have HAi : Hid (InP (fun b => w.heap.size + 4 ≤ b) (.agg #[.int .i64 rid, .int .i64 rld, .int .i64 rep, .int .i64 rvr, .slice x1 rl1.length y1, .slice x2 rl2.length y2, .slice x3 rl3.length y3, .slice x4 rl4.length y4, .int .i64 rmn]) ⟨rid, rld, rep, rvr, rl1, rl2, rl3, rl4, rmn⟩) := HIA.out
    have HTb := hid (HT0.out.next hb)
    have hbx := hb
    clear h1 h2 HIA k0 k1 k2 k3 k4 k5 k6 k7 k8 m0 m1 m2 m3 m4 m5
    go_upto_region 8 with fail
    have hA : Below W2.heap.size W2 (W2.alloc (.cells #[.int .i64 rid, .int .i64 rld, .int .i64 rep, .int .i64 rvr, .slice x1 rl1.length y1, .slice x2 rl2.length y2, .slice x3 rl3.length y3, .slice x4 rl4.length y4, .int .i64 rmn] 24)) := (Below.refl _ _).alloc (Nat.le_refl _) _
    have HT3 := hid (HTb.out.next hA)
    have HA := hid (H1.out.under hA)
    have HAq : Hid ((W2.alloc (.cells #[.int .i64 rid, .int .i64 rld, .int .i64 rep, .int .i64 rvr, .slice x1 rl1.length y1, .slice x2 rl2.length y2, .slice x3 rl3.length y3, .slice x4 rl4.length y4, .int .i64 rmn] 24)).heap[W2.heap.size]? = some (.cells #[.int .i64 rid, .int .i64 rld, .int .i64 rep, .int .i64 rvr, .slice x1 rl1.length y1, .slice x2 rl2.length y2, .slice x3 rl3.length y3, .slice x4 rl4.length y4, .int .i64 rmn] 24)) := heap_alloc_new _ _
    have HAn : Hid (w.heap.size + 4 ≤ W2.heap.size) := by show _ ≤ _; have := lt_blk HTb.out.y; omega
    clear hA hb hbx HTb H1 HSZ
    generalize W2.alloc (.cells #[.int .i64 rid, .int .i64 rld, .int .i64 rep, .int .i64 rvr, .slice x1 rl1.length y1, .slice x2 rl2.length y2, .slice x3 rl3.length y3, .slice x4 rl4.length y4, .int .i64 rmn] 24) = W3 at *
    generalize W2.heap.size = q1 at *
    have k0 := cell_blk HT3.out.x 0 _ rfl
    have k1 := cell_blk HT3.out.x 1 _ rfl
    have k2 := cell_blk HT3.out.x 2 _ rfl
    have k3 := cell_blk HT3.out.x 3 _ rfl
    have k4 := cell_blk HT3.out.x 4 _ rfl
    have k5 := cell_blk HT3.out.x 5 _ rfl
    have k6 := cell_blk HT3.out.x 6 _ rfl
    have k7 := cell_blk HT3.out.x 7 _ rfl
    have k8 := cell_blk HT3.out.x 8 _ rfl
    have m0 := cell_blk HT3.out.o 0 _ rfl
    have m1 := cell_blk HT3.out.o 1 _ rfl
    have m2 := cell_blk HT3.out.o 2 _ rfl
    have m3 := cell_blk HT3.out.o 3 _ rfl
    have m4 := cell_blk HT3.out.o 4 _ rfl
    have m5 := cell_blk HT3.out.o 5 _ rfl
    go_wp2_with fail
    refine (GB.out _ HT3.out.b).mono ?_
    rintro e W4 ⟨v', rfl, h1, h2, hb⟩
    have HSZ : Hid (w.heap.size + 3 < W3.heap.size) := lt_blk HT3.out.y
    have HIA := hid (h2.mono (Y := fun b => w.heap.size + 4 ≤ b) fun b hx => by have := HSZ.out; omega)
    obtain ⟨t1, u1, t2, u2, t3, u3, t4, u4, rfl, _⟩ := h1.open
    have H1 : Hid (PartM W4 (.agg #[.int .i64 rid, .int .i64 rld, .int .i64 rep, .int .i64 rvr, .slice t1 rl1.length u1, .slice t2 rl2.length u2, .slice t3 rl3.length u3, .slice t4 rl4.length u4, .int .i64 rmn]) ⟨rid, rld, rep, rvr, rl1, rl2, rl3, rl4, rmn⟩) := h1
    have HBi : Hid (InP (fun b => w.heap.size + 4 ≤ b) (.agg #[.int .i64 rid, .int .i64 rld, .int .i64 rep, .int .i64 rvr, .slice t1 rl1.length u1, .slice t2 rl2.length u2, .slice t3 rl3.length u3, .slice t4 rl4.length u4, .int .i64 rmn]) ⟨rid, rld, rep, rvr, rl1, rl2, rl3, rl4, rmn⟩) := HIA.out
    have HTb := hid (HT3.out.next hb)
    have hbx := hb
    clear h1 h2 HIA k0 k1 k2 k3 k4 k5 k6 k7 k8 m0 m1 m2 m3 m4 m5
    go_upto_region 9 with fail
    have hA : Below W4.heap.size W4 (W4.alloc (.cells #[.int .i64 rid, .int .i64 rld, .int .i64 rep, .int .i64 rvr, .slice t1 rl1.length u1, .slice t2 rl2.length u2, .slice t3 rl3.length u3, .slice t4 rl4.length u4, .int .i64 rmn] 24)) := (Below.refl _ _).alloc (Nat.le_refl _) _
    have HT5 := hid (HTb.out.next hA)
    have HB := hid (H1.out.under hA)
    have HBq : Hid ((W4.alloc (.cells #[.int .i64 rid, .int .i64 rld, .int .i64 rep, .int .i64 rvr, .slice t1 rl1.length u1, .slice t2 rl2.length u2, .slice t3 rl3.length u3, .slice t4 rl4.length u4, .int .i64 rmn] 24)).heap[W4.heap.size]? = some (.cells #[.int .i64 rid, .int .i64 rld, .int .i64 rep, .int .i64 rvr, .slice t1 rl1.length u1, .slice t2 rl2.length u2, .slice t3 rl3.length u3, .slice t4 rl4.length u4, .int .i64 rmn] 24)) := heap_alloc_new _ _
    have HBn : Hid (w.heap.size + 4 ≤ W4.heap.size) := by show _ ≤ _; have := lt_blk HTb.out.y; omega
    have HA5 := hid ((HA.out.under hbx).under hA)
    have HAq5 := hid (blk_under (blk_under HAq.out hbx) hA)
    have HNE : Hid (q1 < W4.heap.size) := lt_blk (blk_under HAq.out hbx)
    clear hA hb hbx HTb H1 HSZ
    generalize W4.alloc (.cells #[.int .i64 rid, .int .i64 rld, .int .i64 rep, .int .i64 rvr, .slice t1 rl1.length u1, .slice t2 rl2.length u2, .slice t3 rl3.length u3, .slice t4 rl4.length u4, .int .i64 rmn] 24) = W5 at *
    generalize W4.heap.size = q2 at *
    have k0 := cell_blk HT5.out.x 0 _ rfl
    have k1 := cell_blk HT5.out.x 1 _ rfl
    have k2 := cell_blk HT5.out.x 2 _ rfl
    have k3 := cell_blk HT5.out.x 3 _ rfl
    have k4 := cell_blk HT5.out.x 4 _ rfl
    have k5 := cell_blk HT5.out.x 5 _ rfl
    have k6 := cell_blk HT5.out.x 6 _ rfl
    have k7 := cell_blk HT5.out.x 7 _ rfl
    have k8 := cell_blk HT5.out.x 8 _ rfl
    have m0 := cell_blk HT5.out.o 0 _ rfl
    have m1 := cell_blk HT5.out.o 1 _ rfl
    have m2 := cell_blk HT5.out.o 2 _ rfl
    have m3 := cell_blk HT5.out.o 3 _ rfl
    have m4 := cell_blk HT5.out.o 4 _ rfl
    have m5 := cell_blk HT5.out.o 5 _ rfl
    clear k0 k1 k2 k3 k4 k5 k6 k7 k8 m0 m1 m2 m3 m4 m5 HA HAq
    have hq1 := HAn.out
    have hq2 := HNE.out
    have hq3 := HBn.out
    have e1 : ¬ q1 = w.heap.size + 2 := by omega
    have e1' : ¬ w.heap.size + 2 = q1 := by omega
    have e2 : ¬ q1 = w.heap.size + 3 := by omega
    have e2' : ¬ w.heap.size + 3 = q1 := by omega
    have e3 : ¬ q2 = w.heap.size + 2 := by omega
    have e3' : ¬ w.heap.size + 2 = q2 := by omega
    have e4 : ¬ q2 = w.heap.size + 3 := by omega
    have e4' : ¬ w.heap.size + 3 = q2 := by omega
    have e5 : ¬ w.heap.size + 2 = w.heap.size + 3 := by omega
    have e5' : ¬ w.heap.size + 3 = w.heap.size + 2 := by omega
    clear hq1 hq2 hq3
    have g0 := cell_blk HAq5.out 0 _ rfl
    have g1 := cell_blk HAq5.out 1 _ rfl
    have g2 := cell_blk HAq5.out 2 _ rfl
    have g3 := cell_blk HAq5.out 3 _ rfl
    have g4 := cell_blk HAq5.out 4 _ rfl
    have g5 := cell_blk HAq5.out 5 _ rfl
    have g6 := cell_blk HAq5.out 6 _ rfl
    have g7 := cell_blk HAq5.out 7 _ rfl
    have g8 := cell_blk HAq5.out 8 _ rfl
    have h0 := cell_blk HBq.out 0 _ rfl
    have h1 := cell_blk HBq.out 1 _ rfl
    have h2 := cell_blk HBq.out 2 _ rfl
    have h3 := cell_blk HBq.out 3 _ rfl
    have h4 := cell_blk HBq.out 4 _ rfl
    have h5 := cell_blk HBq.out 5 _ rfl
    have h6 := cell_blk HBq.out 6 _ rfl
    have h7 := cell_blk HBq.out 7 _ rfl
    have h8 := cell_blk HBq.out 8 _ rfl
    have z0 := cell_blk HT5.out.z 0 _ rfl
    have z1 := cell_blk HT5.out.z 1 _ rfl
    have z2 := cell_blk HT5.out.z 2 _ rfl
    have z3 := cell_blk HT5.out.z 3 _ rfl
    have z4 := cell_blk HT5.out.z 4 _ rfl
    have z5 := cell_blk HT5.out.z 5 _ rfl
    have z6 := cell_blk HT5.out.z 6 _ rfl
    have z7 := cell_blk HT5.out.z 7 _ rfl
    have z8 := cell_blk HT5.out.z 8 _ rfl
    have yy0 := cell_blk HT5.out.y 0 _ rfl
    have yy1 := cell_blk HT5.out.y 1 _ rfl
    have yy2 := cell_blk HT5.out.y 2 _ rfl
    have yy3 := cell_blk HT5.out.y 3 _ rfl
    have yy4 := cell_blk HT5.out.y 4 _ rfl
    have yy5 := cell_blk HT5.out.y 5 _ rfl
    have yy6 := cell_blk HT5.out.y 6 _ rfl
    have yy7 := cell_blk HT5.out.y 7 _ rfl
    have yy8 := cell_blk HT5.out.y 8 _ rfl
    have fz := frz_blk HT5.out.z
    have fy := frz_blk HT5.out.y
    go_region_held3 (fun w' => w'.cell? ⟨q1, 0, none⟩ = some (.int .i64 rid) ∧ w'.cell? ⟨q1, 1, none⟩ = some (.int .i64 rld) ∧ w'.cell? ⟨q1, 2, none⟩ = some (.int .i64 rep) ∧ w'.cell? ⟨q1, 3, none⟩ = some (.int .i64 rvr) ∧ w'.cell? ⟨q1, 4, none⟩ = some (.slice x1 rl1.length y1) ∧ w'.cell? ⟨q1, 5, none⟩ = some (.slice x2 rl2.length y2) ∧ w'.cell? ⟨q1, 6, none⟩ = some (.slice x3 rl3.length y3) ∧ w'.cell? ⟨q1, 7, none⟩ = some (.slice x4 rl4.length y4) ∧ w'.cell? ⟨q1, 8, none⟩ = some (.int .i64 rmn) ∧ w'.cell? ⟨q2, 0, none⟩ = some (.int .i64 rid) ∧ w'.cell? ⟨q2, 1, none⟩ = some (.int .i64 rld) ∧ w'.cell? ⟨q2, 2, none⟩ = some (.int .i64 rep) ∧ w'.cell? ⟨q2, 3, none⟩ = some (.int .i64 rvr) ∧ w'.cell? ⟨q2, 4, none⟩ = some (.slice t1 rl1.length u1) ∧ w'.cell? ⟨q2, 5, none⟩ = some (.slice t2 rl2.length u2) ∧ w'.cell? ⟨q2, 6, none⟩ = some (.slice t3 rl3.length u3) ∧ w'.cell? ⟨q2, 7, none⟩ = some (.slice t4 rl4.length u4) ∧ w'.cell? ⟨q2, 8, none⟩ = some (.int .i64 rmn)) (go_keep) (fail)
    all_goals
      obtain ⟨o1, o2⟩ := nine_off W5 (w.heap.size + 2) (.int .i64 rid) (.int .i64 rld) (.int .i64 rep) (.int .i64 rvr) (.slice x1 rl1.length y1) (.slice x2 rl2.length y2) (.slice x3 rl3.length y3) (.slice x4 rl4.length y4) (.int .i64 rmn)
      have HZ6 := hid (nine_q HT5.out.z rfl (.int .i64 rid) (.int .i64 rld) (.int .i64 rep) (.int .i64 rvr) (.slice x1 rl1.length y1) (.slice x2 rl2.length y2) (.slice x3 rl3.length y3) (.slice x4 rl4.length y4) (.int .i64 rmn))
      have HY6 := hid ((o1 _ e5').trans HT5.out.y)
      have HB6 := hid (nine_below HT5.out.b (Nat.le_add_right _ 2) (.int .i64 rid) (.int .i64 rld) (.int .i64 rep) (.int .i64 rvr) (.slice x1 rl1.length y1) (.slice x2 rl2.length y2) (.slice x3 rl3.length y3) (.slice x4 rl4.length y4) (.int .i64 rmn))
      have HPA := hid (HA5.out.off (HAi.out.mono fun b hb => by omega) o1 o2)
      have HPB := hid (HB.out.off (HBi.out.mono fun b hb => by omega) o1 o2)
      clear o1 o2 g0 g1 g2 g3 g4 g5 g6 g7 g8 h0 h1 h2 h3 h4 h5 h6 h7 h8 z0 z1 z2 z3 z4 z5 z6 z7 z8 yy0 yy1 yy2 yy3 yy4 yy5 yy6 yy7 yy8 fz fy
      generalize (((((((((W5.setCell ⟨w.heap.size + 2, 0, none⟩ (.int .i64 rid)).setCell ⟨w.heap.size + 2, 1, none⟩ (.int .i64 rld)).setCell ⟨w.heap.size + 2, 2, none⟩ (.int .i64 rep)).setCell ⟨w.heap.size + 2, 3, none⟩ (.int .i64 rvr)).setCell ⟨w.heap.size + 2, 4, none⟩ (.slice x1 rl1.length y1)).setCell ⟨w.heap.size + 2, 5, none⟩ (.slice x2 rl2.length y2)).setCell ⟨w.heap.size + 2, 6, none⟩ (.slice x3 rl3.length y3)).setCell ⟨w.heap.size + 2, 7, none⟩ (.slice x4 rl4.length y4)).setCell ⟨w.heap.size + 2, 8, none⟩ (.int .i64 rmn)) = W6 at *
      obtain ⟨o1, o2⟩ := nine_off W6 (w.heap.size + 3) (.int .i64 rid) (.int .i64 rld) (.int .i64 rep) (.int .i64 rvr) (.slice t1 rl1.length u1) (.slice t2 rl2.length u2) (.slice t3 rl3.length u3) (.slice t4 rl4.length u4) (.int .i64 rmn)
      have HZ7 := hid ((o1 _ e5).trans HZ6.out)
      have HY7 := hid (nine_q HY6.out rfl (.int .i64 rid) (.int .i64 rld) (.int .i64 rep) (.int .i64 rvr) (.slice t1 rl1.length u1) (.slice t2 rl2.length u2) (.slice t3 rl3.length u3) (.slice t4 rl4.length u4) (.int .i64 rmn))
      have HB7 := hid (nine_below HB6.out (Nat.le_add_right _ 3) (.int .i64 rid) (.int .i64 rld) (.int .i64 rep) (.int .i64 rvr) (.slice t1 rl1.length u1) (.slice t2 rl2.length u2) (.slice t3 rl3.length u3) (.slice t4 rl4.length u4) (.int .i64 rmn))
      have HPA7 := hid (HPA.out.off (HAi.out.mono fun b hb => by omega) o1 o2)
      have HPB7 := hid (HPB.out.off (HBi.out.mono fun b hb => by omega) o1 o2)
      clear o1 o2
      generalize (((((((((W6.setCell ⟨w.heap.size + 3, 0, none⟩ (.int .i64 rid)).setCell ⟨w.heap.size + 3, 1, none⟩ (.int .i64 rld)).setCell ⟨w.heap.size + 3, 2, none⟩ (.int .i64 rep)).setCell ⟨w.heap.size + 3, 3, none⟩ (.int .i64 rvr)).setCell ⟨w.heap.size + 3, 4, none⟩ (.slice t1 rl1.length u1)).setCell ⟨w.heap.size + 3, 5, none⟩ (.slice t2 rl2.length u2)).setCell ⟨w.heap.size + 3, 6, none⟩ (.slice t3 rl3.length u3)).setCell ⟨w.heap.size + 3, 7, none⟩ (.slice t4 rl4.length u4)).setCell ⟨w.heap.size + 3, 8, none⟩ (.int .i64 rmn)) = W7 at *
      go_wp2_with fail
      have r0 := cell_blk HZ7.out 0 _ rfl
      have r1 := cell_blk HZ7.out 1 _ rfl
      have r2 := cell_blk HZ7.out 2 _ rfl
      have r3 := cell_blk HZ7.out 3 _ rfl
      have r4 := cell_blk HZ7.out 4 _ rfl
      have r5 := cell_blk HZ7.out 5 _ rfl
      have r6 := cell_blk HZ7.out 6 _ rfl
      have r7 := cell_blk HZ7.out 7 _ rfl
      have r8 := cell_blk HZ7.out 8 _ rfl
      have s0 := cell_blk HY7.out 0 _ rfl
      have s1 := cell_blk HY7.out 1 _ rfl
      have s2 := cell_blk HY7.out 2 _ rfl
      have s3 := cell_blk HY7.out 3 _ rfl
      have s4 := cell_blk HY7.out 4 _ rfl
      have s5 := cell_blk HY7.out 5 _ rfl
      have s6 := cell_blk HY7.out 6 _ rfl
      have s7 := cell_blk HY7.out 7 _ rfl
      have s8 := cell_blk HY7.out 8 _ rfl
      exact bodyPost_ret (v := .tuple #[.agg #[.int .i64 rid, .int .i64 rld, .int .i64 rep, .int .i64 rvr, .slice x1 rl1.length y1, .slice x2 rl2.length y2, .slice x3 rl3.length y3, .slice x4 rl4.length y4, .int .i64 rmn], .int .i64 re, .agg #[.int .i64 rid, .int .i64 rld, .int .i64 rep, .int .i64 rvr, .slice t1 rl1.length u1, .slice t2 rl2.length u2, .slice t3 rl3.length u3, .slice t4 rl4.length u4, .int .i64 rmn], .int .i64 re]) (by simp [results, Try.results10, go_sem, r0, r1, r2, r3, r4, r5, r6, r7, r8, s0, s1, s2, s3, s4, s5, s6, s7, s8]) rfl ⟨_, _, rfl, HPA7.out.under (Below.refl _ _).drew, HAi.out.mono fun b hb => by omega, HPB7.out.under (Below.refl _ _).drew, HBi.out.mono fun b hb => by omega, HB7.out.drew⟩
  · have HDK : Hid ((⟨rid, rld, rep, rvr, rl1, rl2, rl3, rl4, rmn⟩, re) = backP ⟨id, ld, ep, vr, isr, reps, add, rem, mn⟩ oa) := by show _ = _; rw [HD.out]; simp
    have GA : Hid (∀ W, Below w.heap.size w W → Calls Try.prog 26 #[.agg #[.int .i64 id, .int .i64 ld, .int .i64 ep, .int .i64 vr, .slice a1 isr.length c1, .slice a2 reps.length c2, .slice a3 add.length c3, .slice a4 rem.length c4, .int .i64 mn], .int .i64 oa] W fun e w' => Res (fun b => W.heap.size ≤ b) W (⟨rid, rld, rep, rvr, rl1, rl2, rl3, rl4, rmn⟩, re) e w') := fun W hb => by rw [HDK.out]; exact back_any (HP.out W hb) oa j1
    have GB : Hid (∀ W, Below w.heap.size w W → Calls Try.prog 31 #[.agg #[.int .i64 id, .int .i64 ld, .int .i64 ep, .int .i64 vr, .slice a1 isr.length c1, .slice a2 reps.length c2, .slice a3 add.length c3, .slice a4 rem.length c4, .int .i64 mn], .int .i64 oa] W fun e w' => Res (fun b => W.heap.size ≤ b) W (⟨rid, rld, rep, rvr, rl1, rl2, rl3, rl4, rmn⟩, re) e w') := fun W hb => by rw [HDK.out]; exact rback_any (HP.out W hb) oa j1
    clear HD HDK
    go_wp2_with fail
    refine (GA.out _ HT0.out.b).mono ?_
    rintro e W2 ⟨v', rfl, h1, h2, hb⟩
    have HSZ : Hid (w.heap.size + 3 < W0.heap.size) := lt_blk HT0.out.y
    have HIA := hid (h2.mono (Y := fun b => w.heap.size + 4 ≤ b) fun b hx => by have := HSZ.out; omega)
    obtain ⟨x1, y1, x2, y2, x3, y3, x4, y4, rfl, _⟩ := h1.open
    have H1 : Hid (PartM W2 (.agg #[.int .i64 rid, .int .i64 rld, .int .i64 rep, .int .i64 rvr, .slice x1 rl1.length y1, .slice x2 rl2.length y2, .slice x3 rl3.length y3, .slice x4 rl4.length y4, .int .i64 rmn]) ⟨rid, rld, rep, rvr, rl1, rl2, rl3, rl4, rmn⟩) := h1
    have HAi : Hid (InP (fun b => w.heap.size + 4 ≤ b) (.agg #[.int .i64 rid, .int .i64 rld, .int .i64 rep, .int .i64 rvr, .slice x1 rl1.length y1, .slice x2 rl2.length y2, .slice x3 rl3.length y3, .slice x4 rl4.length y4, .int .i64 rmn]) ⟨rid, rld, rep, rvr, rl1, rl2, rl3, rl4, rmn⟩) := HIA.out
    have HTb := hid (HT0.out.next hb)
    have hbx := hb
    clear h1 h2 HIA k0 k1 k2 k3 k4 k5 k6 k7 k8 m0 m1 m2 m3 m4 m5
    go_upto_region 12 with fail
    have hA : Below W2.heap.size W2 (W2.alloc (.cells #[.int .i64 rid, .int .i64 rld, .int .i64 rep, .int .i64 rvr, .slice x1 rl1.length y1, .slice x2 rl2.length y2, .slice x3 rl3.length y3, .slice x4 rl4.length y4, .int .i64 rmn] 24)) := (Below.refl _ _).alloc (Nat.le_refl _) _
    have HT3 := hid (HTb.out.next hA)
    have HA := hid (H1.out.under hA)
    have HAq : Hid ((W2.alloc (.cells #[.int .i64 rid, .int .i64 rld, .int .i64 rep, .int .i64 rvr, .slice x1 rl1.length y1, .slice x2 rl2.length y2, .slice x3 rl3.length y3, .slice x4 rl4.length y4, .int .i64 rmn] 24)).heap[W2.heap.size]? = some (.cells #[.int .i64 rid, .int .i64 rld, .int .i64 rep, .int .i64 rvr, .slice x1 rl1.length y1, .slice x2 rl2.length y2, .slice x3 rl3.length y3, .slice x4 rl4.length y4, .int .i64 rmn] 24)) := heap_alloc_new _ _
    have HAn : Hid (w.heap.size + 4 ≤ W2.heap.size) := by show _ ≤ _; have := lt_blk HTb.out.y; omega
    clear hA hb hbx HTb H1 HSZ
    generalize W2.alloc (.cells #[.int .i64 rid, .int .i64 rld, .int .i64 rep, .int .i64 rvr, .slice x1 rl1.length y1, .slice x2 rl2.length y2, .slice x3 rl3.length y3, .slice x4 rl4.length y4, .int .i64 rmn] 24) = W3 at *
    generalize W2.heap.size = q1 at *
    have k0 := cell_blk HT3.out.x 0 _ rfl
    have k1 := cell_blk HT3.out.x 1 _ rfl
    have k2 := cell_blk HT3.out.x 2 _ rfl
    have k3 := cell_blk HT3.out.x 3 _ rfl
    have k4 := cell_blk HT3.out.x 4 _ rfl
    have k5 := cell_blk HT3.out.x 5 _ rfl
    have k6 := cell_blk HT3.out.x 6 _ rfl
    have k7 := cell_blk HT3.out.x 7 _ rfl
    have k8 := cell_blk HT3.out.x 8 _ rfl
    have m0 := cell_blk HT3.out.o 0 _ rfl
    have m1 := cell_blk HT3.out.o 1 _ rfl
    have m2 := cell_blk HT3.out.o 2 _ rfl
    have m3 := cell_blk HT3.out.o 3 _ rfl
    have m4 := cell_blk HT3.out.o 4 _ rfl
    have m5 := cell_blk HT3.out.o 5 _ rfl
    go_wp2_with fail
    refine (GB.out _ HT3.out.b).mono ?_
    rintro e W4 ⟨v', rfl, h1, h2, hb⟩
    have HSZ : Hid (w.heap.size + 3 < W3.heap.size) := lt_blk HT3.out.y
    have HIA := hid (h2.mono (Y := fun b => w.heap.size + 4 ≤ b) fun b hx => by have := HSZ.out; omega)
    obtain ⟨t1, u1, t2, u2, t3, u3, t4, u4, rfl, _⟩ := h1.open
    have H1 : Hid (PartM W4 (.agg #[.int .i64 rid, .int .i64 rld, .int .i64 rep, .int .i64 rvr, .slice t1 rl1.length u1, .slice t2 rl2.length u2, .slice t3 rl3.length u3, .slice t4 rl4.length u4, .int .i64 rmn]) ⟨rid, rld, rep, rvr, rl1, rl2, rl3, rl4, rmn⟩) := h1
    have HBi : Hid (InP (fun b => w.heap.size + 4 ≤ b) (.agg #[.int .i64 rid, .int .i64 rld, .int .i64 rep, .int .i64 rvr, .slice t1 rl1.length u1, .slice t2 rl2.length u2, .slice t3 rl3.length u3, .slice t4 rl4.length u4, .int .i64 rmn]) ⟨rid, rld, rep, rvr, rl1, rl2, rl3, rl4, rmn⟩) := HIA.out
    have HTb := hid (HT3.out.next hb)
    have hbx := hb
    clear h1 h2 HIA k0 k1 k2 k3 k4 k5 k6 k7 k8 m0 m1 m2 m3 m4 m5
    go_upto_region 13 with fail
    have hA : Below W4.heap.size W4 (W4.alloc (.cells #[.int .i64 rid, .int .i64 rld, .int .i64 rep, .int .i64 rvr, .slice t1 rl1.length u1, .slice t2 rl2.length u2, .slice t3 rl3.length u3, .slice t4 rl4.length u4, .int .i64 rmn] 24)) := (Below.refl _ _).alloc (Nat.le_refl _) _
    have HT5 := hid (HTb.out.next hA)
    have HB := hid (H1.out.under hA)
    have HBq : Hid ((W4.alloc (.cells #[.int .i64 rid, .int .i64 rld, .int .i64 rep, .int .i64 rvr, .slice t1 rl1.length u1, .slice t2 rl2.length u2, .slice t3 rl3.length u3, .slice t4 rl4.length u4, .int .i64 rmn] 24)).heap[W4.heap.size]? = some (.cells #[.int .i64 rid, .int .i64 rld, .int .i64 rep, .int .i64 rvr, .slice t1 rl1.length u1, .slice t2 rl2.length u2, .slice t3 rl3.length u3, .slice t4 rl4.length u4, .int .i64 rmn] 24)) := heap_alloc_new _ _
    have HBn : Hid (w.heap.size + 4 ≤ W4.heap.size) := by show _ ≤ _; have := lt_blk HTb.out.y; omega
    have HA5 := hid ((HA.out.under hbx).under hA)
    have HAq5 := hid (blk_under (blk_under HAq.out hbx) hA)
    have HNE : Hid (q1 < W4.heap.size) := lt_blk (blk_under HAq.out hbx)
    clear hA hb hbx HTb H1 HSZ
    generalize W4.alloc (.cells #[.int .i64 rid, .int .i64 rld, .int .i64 rep, .int .i64 rvr, .slice t1 rl1.length u1, .slice t2 rl2.length u2, .slice t3 rl3.length u3, .slice t4 rl4.length u4, .int .i64 rmn] 24) = W5 at *
    generalize W4.heap.size = q2 at *
    have k0 := cell_blk HT5.out.x 0 _ rfl
    have k1 := cell_blk HT5.out.x 1 _ rfl
    have k2 := cell_blk HT5.out.x 2 _ rfl
    have k3 := cell_blk HT5.out.x 3 _ rfl
    have k4 := cell_blk HT5.out.x 4 _ rfl
    have k5 := cell_blk HT5.out.x 5 _ rfl
    have k6 := cell_blk HT5.out.x 6 _ rfl
    have k7 := cell_blk HT5.out.x 7 _ rfl
    have k8 := cell_blk HT5.out.x 8 _ rfl
    have m0 := cell_blk HT5.out.o 0 _ rfl
    have m1 := cell_blk HT5.out.o 1 _ rfl
    have m2 := cell_blk HT5.out.o 2 _ rfl
    have m3 := cell_blk HT5.out.o 3 _ rfl
    have m4 := cell_blk HT5.out.o 4 _ rfl
    have m5 := cell_blk HT5.out.o 5 _ rfl
    clear k0 k1 k2 k3 k4 k5 k6 k7 k8 m0 m1 m2 m3 m4 m5 HA HAq
    have hq1 := HAn.out
    have hq2 := HNE.out
    have hq3 := HBn.out
    have e1 : ¬ q1 = w.heap.size + 2 := by omega
    have e1' : ¬ w.heap.size + 2 = q1 := by omega
    have e2 : ¬ q1 = w.heap.size + 3 := by omega
    have e2' : ¬ w.heap.size + 3 = q1 := by omega
    have e3 : ¬ q2 = w.heap.size + 2 := by omega
    have e3' : ¬ w.heap.size + 2 = q2 := by omega
    have e4 : ¬ q2 = w.heap.size + 3 := by omega
    have e4' : ¬ w.heap.size + 3 = q2 := by omega
    have e5 : ¬ w.heap.size + 2 = w.heap.size + 3 := by omega
    have e5' : ¬ w.heap.size + 3 = w.heap.size + 2 := by omega
    clear hq1 hq2 hq3
    have g0 := cell_blk HAq5.out 0 _ rfl
    have g1 := cell_blk HAq5.out 1 _ rfl
    have g2 := cell_blk HAq5.out 2 _ rfl
    have g3 := cell_blk HAq5.out 3 _ rfl
    have g4 := cell_blk HAq5.out 4 _ rfl
    have g5 := cell_blk HAq5.out 5 _ rfl
    have g6 := cell_blk HAq5.out 6 _ rfl
    have g7 := cell_blk HAq5.out 7 _ rfl
    have g8 := cell_blk HAq5.out 8 _ rfl
    have h0 := cell_blk HBq.out 0 _ rfl
    have h1 := cell_blk HBq.out 1 _ rfl
    have h2 := cell_blk HBq.out 2 _ rfl
    have h3 := cell_blk HBq.out 3 _ rfl
    have h4 := cell_blk HBq.out 4 _ rfl
    have h5 := cell_blk HBq.out 5 _ rfl
    have h6 := cell_blk HBq.out 6 _ rfl
    have h7 := cell_blk HBq.out 7 _ rfl
    have h8 := cell_blk HBq.out 8 _ rfl
    have z0 := cell_blk HT5.out.z 0 _ rfl
    have z1 := cell_blk HT5.out.z 1 _ rfl
    have z2 := cell_blk HT5.out.z 2 _ rfl
    have z3 := cell_blk HT5.out.z 3 _ rfl
    have z4 := cell_blk HT5.out.z 4 _ rfl
    have z5 := cell_blk HT5.out.z 5 _ rfl
    have z6 := cell_blk HT5.out.z 6 _ rfl
    have z7 := cell_blk HT5.out.z 7 _ rfl
    have z8 := cell_blk HT5.out.z 8 _ rfl
    have yy0 := cell_blk HT5.out.y 0 _ rfl
    have yy1 := cell_blk HT5.out.y 1 _ rfl
    have yy2 := cell_blk HT5.out.y 2 _ rfl
    have yy3 := cell_blk HT5.out.y 3 _ rfl
    have yy4 := cell_blk HT5.out.y 4 _ rfl
    have yy5 := cell_blk HT5.out.y 5 _ rfl
    have yy6 := cell_blk HT5.out.y 6 _ rfl
    have yy7 := cell_blk HT5.out.y 7 _ rfl
    have yy8 := cell_blk HT5.out.y 8 _ rfl
    have fz := frz_blk HT5.out.z
    have fy := frz_blk HT5.out.y
    go_region_held3 (fun w' => w'.cell? ⟨q1, 0, none⟩ = some (.int .i64 rid) ∧ w'.cell? ⟨q1, 1, none⟩ = some (.int .i64 rld) ∧ w'.cell? ⟨q1, 2, none⟩ = some (.int .i64 rep) ∧ w'.cell? ⟨q1, 3, none⟩ = some (.int .i64 rvr) ∧ w'.cell? ⟨q1, 4, none⟩ = some (.slice x1 rl1.length y1) ∧ w'.cell? ⟨q1, 5, none⟩ = some (.slice x2 rl2.length y2) ∧ w'.cell? ⟨q1, 6, none⟩ = some (.slice x3 rl3.length y3) ∧ w'.cell? ⟨q1, 7, none⟩ = some (.slice x4 rl4.length y4) ∧ w'.cell? ⟨q1, 8, none⟩ = some (.int .i64 rmn) ∧ w'.cell? ⟨q2, 0, none⟩ = some (.int .i64 rid) ∧ w'.cell? ⟨q2, 1, none⟩ = some (.int .i64 rld) ∧ w'.cell? ⟨q2, 2, none⟩ = some (.int .i64 rep) ∧ w'.cell? ⟨q2, 3, none⟩ = some (.int .i64 rvr) ∧ w'.cell? ⟨q2, 4, none⟩ = some (.slice t1 rl1.length u1) ∧ w'.cell? ⟨q2, 5, none⟩ = some (.slice t2 rl2.length u2) ∧ w'.cell? ⟨q2, 6, none⟩ = some (.slice t3 rl3.length u3) ∧ w'.cell? ⟨q2, 7, none⟩ = some (.slice t4 rl4.length u4) ∧ w'.cell? ⟨q2, 8, none⟩ = some (.int .i64 rmn)) (go_keep) (fail)
    all_goals
      obtain ⟨o1, o2⟩ := nine_off W5 (w.heap.size + 2) (.int .i64 rid) (.int .i64 rld) (.int .i64 rep) (.int .i64 rvr) (.slice x1 rl1.length y1) (.slice x2 rl2.length y2) (.slice x3 rl3.length y3) (.slice x4 rl4.length y4) (.int .i64 rmn)
      have HZ6 := hid (nine_q HT5.out.z rfl (.int .i64 rid) (.int .i64 rld) (.int .i64 rep) (.int .i64 rvr) (.slice x1 rl1.length y1) (.slice x2 rl2.length y2) (.slice x3 rl3.length y3) (.slice x4 rl4.length y4) (.int .i64 rmn))
      have HY6 := hid ((o1 _ e5').trans HT5.out.y)
      have HB6 := hid (nine_below HT5.out.b (Nat.le_add_right _ 2) (.int .i64 rid) (.int .i64 rld) (.int .i64 rep) (.int .i64 rvr) (.slice x1 rl1.length y1) (.slice x2 rl2.length y2) (.slice x3 rl3.length y3) (.slice x4 rl4.length y4) (.int .i64 rmn))
      have HPA := hid (HA5.out.off (HAi.out.mono fun b hb => by omega) o1 o2)
      have HPB := hid (HB.out.off (HBi.out.mono fun b hb => by omega) o1 o2)
      clear o1 o2 g0 g1 g2 g3 g4 g5 g6 g7 g8 h0 h1 h2 h3 h4 h5 h6 h7 h8 z0 z1 z2 z3 z4 z5 z6 z7 z8 yy0 yy1 yy2 yy3 yy4 yy5 yy6 yy7 yy8 fz fy
      generalize (((((((((W5.setCell ⟨w.heap.size + 2, 0, none⟩ (.int .i64 rid)).setCell ⟨w.heap.size + 2, 1, none⟩ (.int .i64 rld)).setCell ⟨w.heap.size + 2, 2, none⟩ (.int .i64 rep)).setCell ⟨w.heap.size + 2, 3, none⟩ (.int .i64 rvr)).setCell ⟨w.heap.size + 2, 4, none⟩ (.slice x1 rl1.length y1)).setCell ⟨w.heap.size + 2, 5, none⟩ (.slice x2 rl2.length y2)).setCell ⟨w.heap.size + 2, 6, none⟩ (.slice x3 rl3.length y3)).setCell ⟨w.heap.size + 2, 7, none⟩ (.slice x4 rl4.length y4)).setCell ⟨w.heap.size + 2, 8, none⟩ (.int .i64 rmn)) = W6 at *
      obtain ⟨o1, o2⟩ := nine_off W6 (w.heap.size + 3) (.int .i64 rid) (.int .i64 rld) (.int .i64 rep) (.int .i64 rvr) (.slice t1 rl1.length u1) (.slice t2 rl2.length u2) (.slice t3 rl3.length u3) (.slice t4 rl4.length u4) (.int .i64 rmn)
      have HZ7 := hid ((o1 _ e5).trans HZ6.out)
      have HY7 := hid (nine_q HY6.out rfl (.int .i64 rid) (.int .i64 rld) (.int .i64 rep) (.int .i64 rvr) (.slice t1 rl1.length u1) (.slice t2 rl2.length u2) (.slice t3 rl3.length u3) (.slice t4 rl4.length u4) (.int .i64 rmn))
      have HB7 := hid (nine_below HB6.out (Nat.le_add_right _ 3) (.int .i64 rid) (.int .i64 rld) (.int .i64 rep) (.int .i64 rvr) (.slice t1 rl1.length u1) (.slice t2 rl2.length u2) (.slice t3 rl3.length u3) (.slice t4 rl4.length u4) (.int .i64 rmn))
      have HPA7 := hid (HPA.out.off (HAi.out.mono fun b hb => by omega) o1 o2)
      have HPB7 := hid (HPB.out.off (HBi.out.mono fun b hb => by omega) o1 o2)
      clear o1 o2
      generalize (((((((((W6.setCell ⟨w.heap.size + 3, 0, none⟩ (.int .i64 rid)).setCell ⟨w.heap.size + 3, 1, none⟩ (.int .i64 rld)).setCell ⟨w.heap.size + 3, 2, none⟩ (.int .i64 rep)).setCell ⟨w.heap.size + 3, 3, none⟩ (.int .i64 rvr)).setCell ⟨w.heap.size + 3, 4, none⟩ (.slice t1 rl1.length u1)).setCell ⟨w.heap.size + 3, 5, none⟩ (.slice t2 rl2.length u2)).setCell ⟨w.heap.size + 3, 6, none⟩ (.slice t3 rl3.length u3)).setCell ⟨w.heap.size + 3, 7, none⟩ (.slice t4 rl4.length u4)).setCell ⟨w.heap.size + 3, 8, none⟩ (.int .i64 rmn)) = W7 at *
      go_wp2_with fail
      have r0 := cell_blk HZ7.out 0 _ rfl
      have r1 := cell_blk HZ7.out 1 _ rfl
      have r2 := cell_blk HZ7.out 2 _ rfl
      have r3 := cell_blk HZ7.out 3 _ rfl
      have r4 := cell_blk HZ7.out 4 _ rfl
      have r5 := cell_blk HZ7.out 5 _ rfl
      have r6 := cell_blk HZ7.out 6 _ rfl
      have r7 := cell_blk HZ7.out 7 _ rfl
      have r8 := cell_blk HZ7.out 8 _ rfl
      have s0 := cell_blk HY7.out 0 _ rfl
      have s1 := cell_blk HY7.out 1 _ rfl
      have s2 := cell_blk HY7.out 2 _ rfl
      have s3 := cell_blk HY7.out 3 _ rfl
      have s4 := cell_blk HY7.out 4 _ rfl
      have s5 := cell_blk HY7.out 5 _ rfl
      have s6 := cell_blk HY7.out 6 _ rfl
      have s7 := cell_blk HY7.out 7 _ rfl
      have s8 := cell_blk HY7.out 8 _ rfl
      exact bodyPost_ret (v := .tuple #[.agg #[.int .i64 rid, .int .i64 rld, .int .i64 rep, .int .i64 rvr, .slice x1 rl1.length y1, .slice x2 rl2.length y2, .slice x3 rl3.length y3, .slice x4 rl4.length y4, .int .i64 rmn], .int .i64 re, .agg #[.int .i64 rid, .int .i64 rld, .int .i64 rep, .int .i64 rvr, .slice t1 rl1.length u1, .slice t2 rl2.length u2, .slice t3 rl3.length u3, .slice t4 rl4.length u4, .int .i64 rmn], .int .i64 re]) (by simp [results, Try.results10, go_sem, r0, r1, r2, r3, r4, r5, r6, r7, r8, s0, s1, s2, s3, s4, s5, s6, s7, s8]) rfl ⟨_, _, rfl, HPA7.out.under (Below.refl _ _).drew, HAi.out.mono fun b hb => by omega, HPB7.out.under (Below.refl _ _).drew, HBi.out.mono fun b hb => by omega, HB7.out.drew⟩
  · have HDK : Hid ((⟨rid, rld, rep, rvr, rl1, rl2, rl3, rl4, rmn⟩, re) = alterP ⟨id, ld, ep, vr, isr, reps, add, rem, mn⟩ oa ob oc ol ou) := by show _ = _; rw [HD.out]; simp
    have GA : Hid (∀ W, Below w.heap.size w W → Calls Try.prog 23 #[.agg #[.int .i64 id, .int .i64 ld, .int .i64 ep, .int .i64 vr, .slice a1 isr.length c1, .slice a2 reps.length c2, .slice a3 add.length c3, .slice a4 rem.length c4, .int .i64 mn], .int .i64 oa, .int .i64 ob, .int .i64 oc, .slice la ol.length lc, .slice ua ou.length uc] W fun e w' => Res (fun b => W.heap.size ≤ b) W (⟨rid, rld, rep, rvr, rl1, rl2, rl3, rl4, rmn⟩, re) e w') := fun W hb => by rw [HDK.out]; exact alter_any (HP.out W hb) oa ob oc j1 j2 j3 (QL.out.under hb) (QU.out.under hb)
    have GB : Hid (∀ W, Below w.heap.size w W → Calls Try.prog 32 #[.agg #[.int .i64 id, .int .i64 ld, .int .i64 ep, .int .i64 vr, .slice a1 isr.length c1, .slice a2 reps.length c2, .slice a3 add.length c3, .slice a4 rem.length c4, .int .i64 mn], .int .i64 oa, .int .i64 ob, .int .i64 oc, .slice la ol.length lc, .slice ua ou.length uc] W fun e w' => Res (fun b => W.heap.size ≤ b) W (⟨rid, rld, rep, rvr, rl1, rl2, rl3, rl4, rmn⟩, re) e w') := fun W hb => by rw [HDK.out]; exact ralter_any (HP.out W hb) oa ob oc j1 j2 j3 (QL.out.under hb) (QU.out.under hb)
    clear HD HDK
    go_wp2_with fail
    refine (GA.out _ HT0.out.b).mono ?_
    rintro e W2 ⟨v', rfl, h1, h2, hb⟩
    have HSZ : Hid (w.heap.size + 3 < W0.heap.size) := lt_blk HT0.out.y
    have HIA := hid (h2.mono (Y := fun b => w.heap.size + 4 ≤ b) fun b hx => by have := HSZ.out; omega)
    obtain ⟨x1, y1, x2, y2, x3, y3, x4, y4, rfl, _⟩ := h1.open
    have H1 : Hid (PartM W2 (.agg #[.int .i64 rid, .int .i64 rld, .int .i64 rep, .int .i64 rvr, .slice x1 rl1.length y1, .slice x2 rl2.length y2, .slice x3 rl3.length y3, .slice x4 rl4.length y4, .int .i64 rmn]) ⟨rid, rld, rep, rvr, rl1, rl2, rl3, rl4, rmn⟩) := h1
    have HAi : Hid (InP (fun b => w.heap.size + 4 ≤ b) (.agg #[.int .i64 rid, .int .i64 rld, .int .i64 rep, .int .i64 rvr, .slice x1 rl1.length y1, .slice x2 rl2.length y2, .slice x3 rl3.length y3, .slice x4 rl4.length y4, .int .i64 rmn]) ⟨rid, rld, rep, rvr, rl1, rl2, rl3, rl4, rmn⟩) := HIA.out
    have HTb := hid (HT0.out.next hb)
    have hbx := hb
    clear h1 h2 HIA k0 k1 k2 k3 k4 k5 k6 k7 k8 m0 m1 m2 m3 m4 m5
    go_upto_region 16 with fail
    have hA : Below W2.heap.size W2 (W2.alloc (.cells #[.int .i64 rid, .int .i64 rld, .int .i64 rep, .int .i64 rvr, .slice x1 rl1.length y1, .slice x2 rl2.length y2, .slice x3 rl3.length y3, .slice x4 rl4.length y4, .int .i64 rmn] 24)) := (Below.refl _ _).alloc (Nat.le_refl _) _
    have HT3 := hid (HTb.out.next hA)
    have HA := hid (H1.out.under hA)
    have HAq : Hid ((W2.alloc (.cells #[.int .i64 rid, .int .i64 rld, .int .i64 rep, .int .i64 rvr, .slice x1 rl1.length y1, .slice x2 rl2.length y2, .slice x3 rl3.length y3, .slice x4 rl4.length y4, .int .i64 rmn] 24)).heap[W2.heap.size]? = some (.cells #[.int .i64 rid, .int .i64 rld, .int .i64 rep, .int .i64 rvr, .slice x1 rl1.length y1, .slice x2 rl2.length y2, .slice x3 rl3.length y3, .slice x4 rl4.length y4, .int .i64 rmn] 24)) := heap_alloc_new _ _
    have HAn : Hid (w.heap.size + 4 ≤ W2.heap.size) := by show _ ≤ _; have := lt_blk HTb.out.y; omega
    clear hA hb hbx HTb H1 HSZ
    generalize W2.alloc (.cells #[.int .i64 rid, .int .i64 rld, .int .i64 rep, .int .i64 rvr, .slice x1 rl1.length y1, .slice x2 rl2.length y2, .slice x3 rl3.length y3, .slice x4 rl4.length y4, .int .i64 rmn] 24) = W3 at *
    generalize W2.heap.size = q1 at *
    have k0 := cell_blk HT3.out.x 0 _ rfl
    have k1 := cell_blk HT3.out.x 1 _ rfl
    have k2 := cell_blk HT3.out.x 2 _ rfl
    have k3 := cell_blk HT3.out.x 3 _ rfl
    have k4 := cell_blk HT3.out.x 4 _ rfl
    have k5 := cell_blk HT3.out.x 5 _ rfl
    have k6 := cell_blk HT3.out.x 6 _ rfl
    have k7 := cell_blk HT3.out.x 7 _ rfl
    have k8 := cell_blk HT3.out.x 8 _ rfl
    have m0 := cell_blk HT3.out.o 0 _ rfl
    have m1 := cell_blk HT3.out.o 1 _ rfl
    have m2 := cell_blk HT3.out.o 2 _ rfl
    have m3 := cell_blk HT3.out.o 3 _ rfl
    have m4 := cell_blk HT3.out.o 4 _ rfl
    have m5 := cell_blk HT3.out.o 5 _ rfl
    go_wp2_with fail
    refine (GB.out _ HT3.out.b).mono ?_
    rintro e W4 ⟨v', rfl, h1, h2, hb⟩
    have HSZ : Hid (w.heap.size + 3 < W3.heap.size) := lt_blk HT3.out.y
    have HIA := hid (h2.mono (Y := fun b => w.heap.size + 4 ≤ b) fun b hx => by have := HSZ.out; omega)
    obtain ⟨t1, u1, t2, u2, t3, u3, t4, u4, rfl, _⟩ := h1.open
    have H1 : Hid (PartM W4 (.agg #[.int .i64 rid, .int .i64 rld, .int .i64 rep, .int .i64 rvr, .slice t1 rl1.length u1, .slice t2 rl2.length u2, .slice t3 rl3.length u3, .slice t4 rl4.length u4, .int .i64 rmn]) ⟨rid, rld, rep, rvr, rl1, rl2, rl3, rl4, rmn⟩) := h1
    have HBi : Hid (InP (fun b => w.heap.size + 4 ≤ b) (.agg #[.int .i64 rid, .int .i64 rld, .int .i64 rep, .int .i64 rvr, .slice t1 rl1.length u1, .slice t2 rl2.length u2, .slice t3 rl3.length u3, .slice t4 rl4.length u4, .int .i64 rmn]) ⟨rid, rld, rep, rvr, rl1, rl2, rl3, rl4, rmn⟩) := HIA.out
    have HTb := hid (HT3.out.next hb)
    have hbx := hb
    clear h1 h2 HIA k0 k1 k2 k3 k4 k5 k6 k7 k8 m0 m1 m2 m3 m4 m5
    go_upto_region 17 with fail
    have hA : Below W4.heap.size W4 (W4.alloc (.cells #[.int .i64 rid, .int .i64 rld, .int .i64 rep, .int .i64 rvr, .slice t1 rl1.length u1, .slice t2 rl2.length u2, .slice t3 rl3.length u3, .slice t4 rl4.length u4, .int .i64 rmn] 24)) := (Below.refl _ _).alloc (Nat.le_refl _) _
    have HT5 := hid (HTb.out.next hA)
    have HB := hid (H1.out.under hA)
    have HBq : Hid ((W4.alloc (.cells #[.int .i64 rid, .int .i64 rld, .int .i64 rep, .int .i64 rvr, .slice t1 rl1.length u1, .slice t2 rl2.length u2, .slice t3 rl3.length u3, .slice t4 rl4.length u4, .int .i64 rmn] 24)).heap[W4.heap.size]? = some (.cells #[.int .i64 rid, .int .i64 rld, .int .i64 rep, .int .i64 rvr, .slice t1 rl1.length u1, .slice t2 rl2.length u2, .slice t3 rl3.length u3, .slice t4 rl4.length u4, .int .i64 rmn] 24)) := heap_alloc_new _ _
    have HBn : Hid (w.heap.size + 4 ≤ W4.heap.size) := by show _ ≤ _; have := lt_blk HTb.out.y; omega
    have HA5 := hid ((HA.out.under hbx).under hA)
    have HAq5 := hid (blk_under (blk_under HAq.out hbx) hA)
    have HNE : Hid (q1 < W4.heap.size) := lt_blk (blk_under HAq.out hbx)
    clear hA hb hbx HTb H1 HSZ
    generalize W4.alloc (.cells #[.int .i64 rid, .int .i64 rld, .int .i64 rep, .int .i64 rvr, .slice t1 rl1.length u1, .slice t2 rl2.length u2, .slice t3 rl3.length u3, .slice t4 rl4.length u4, .int .i64 rmn] 24) = W5 at *
    generalize W4.heap.size = q2 at *
    have k0 := cell_blk HT5.out.x 0 _ rfl
    have k1 := cell_blk HT5.out.x 1 _ rfl
    have k2 := cell_blk HT5.out.x 2 _ rfl
    have k3 := cell_blk HT5.out.x 3 _ rfl
    have k4 := cell_blk HT5.out.x 4 _ rfl
    have k5 := cell_blk HT5.out.x 5 _ rfl
    have k6 := cell_blk HT5.out.x 6 _ rfl
    have k7 := cell_blk HT5.out.x 7 _ rfl
    have k8 := cell_blk HT5.out.x 8 _ rfl
    have m0 := cell_blk HT5.out.o 0 _ rfl
    have m1 := cell_blk HT5.out.o 1 _ rfl
    have m2 := cell_blk HT5.out.o 2 _ rfl
    have m3 := cell_blk HT5.out.o 3 _ rfl
    have m4 := cell_blk HT5.out.o 4 _ rfl
    have m5 := cell_blk HT5.out.o 5 _ rfl
    clear k0 k1 k2 k3 k4 k5 k6 k7 k8 m0 m1 m2 m3 m4 m5 HA HAq
    have hq1 := HAn.out
    have hq2 := HNE.out
    have hq3 := HBn.out
    have e1 : ¬ q1 = w.heap.size + 2 := by omega
    have e1' : ¬ w.heap.size + 2 = q1 := by omega
    have e2 : ¬ q1 = w.heap.size + 3 := by omega
    have e2' : ¬ w.heap.size + 3 = q1 := by omega
    have e3 : ¬ q2 = w.heap.size + 2 := by omega
    have e3' : ¬ w.heap.size + 2 = q2 := by omega
    have e4 : ¬ q2 = w.heap.size + 3 := by omega
    have e4' : ¬ w.heap.size + 3 = q2 := by omega
    have e5 : ¬ w.heap.size + 2 = w.heap.size + 3 := by omega
    have e5' : ¬ w.heap.size + 3 = w.heap.size + 2 := by omega
    clear hq1 hq2 hq3
    have g0 := cell_blk HAq5.out 0 _ rfl
    have g1 := cell_blk HAq5.out 1 _ rfl
    have g2 := cell_blk HAq5.out 2 _ rfl
    have g3 := cell_blk HAq5.out 3 _ rfl
    have g4 := cell_blk HAq5.out 4 _ rfl
    have g5 := cell_blk HAq5.out 5 _ rfl
    have g6 := cell_blk HAq5.out 6 _ rfl
    have g7 := cell_blk HAq5.out 7 _ rfl
    have g8 := cell_blk HAq5.out 8 _ rfl
    have h0 := cell_blk HBq.out 0 _ rfl
    have h1 := cell_blk HBq.out 1 _ rfl
    have h2 := cell_blk HBq.out 2 _ rfl
    have h3 := cell_blk HBq.out 3 _ rfl
    have h4 := cell_blk HBq.out 4 _ rfl
    have h5 := cell_blk HBq.out 5 _ rfl
    have h6 := cell_blk HBq.out 6 _ rfl
    have h7 := cell_blk HBq.out 7 _ rfl
    have h8 := cell_blk HBq.out 8 _ rfl
    have z0 := cell_blk HT5.out.z 0 _ rfl
    have z1 := cell_blk HT5.out.z 1 _ rfl
    have z2 := cell_blk HT5.out.z 2 _ rfl
    have z3 := cell_blk HT5.out.z 3 _ rfl
    have z4 := cell_blk HT5.out.z 4 _ rfl
    have z5 := cell_blk HT5.out.z 5 _ rfl
    have z6 := cell_blk HT5.out.z 6 _ rfl
    have z7 := cell_blk HT5.out.z 7 _ rfl
    have z8 := cell_blk HT5.out.z 8 _ rfl
    have yy0 := cell_blk HT5.out.y 0 _ rfl
    have yy1 := cell_blk HT5.out.y 1 _ rfl
    have yy2 := cell_blk HT5.out.y 2 _ rfl
    have yy3 := cell_blk HT5.out.y 3 _ rfl
    have yy4 := cell_blk HT5.out.y 4 _ rfl
    have yy5 := cell_blk HT5.out.y 5 _ rfl
    have yy6 := cell_blk HT5.out.y 6 _ rfl
    have yy7 := cell_blk HT5.out.y 7 _ rfl
    have yy8 := cell_blk HT5.out.y 8 _ rfl
    have fz := frz_blk HT5.out.z
    have fy := frz_blk HT5.out.y
    go_region_held3 (fun w' => w'.cell? ⟨q1, 0, none⟩ = some (.int .i64 rid) ∧ w'.cell? ⟨q1, 1, none⟩ = some (.int .i64 rld) ∧ w'.cell? ⟨q1, 2, none⟩ = some (.int .i64 rep) ∧ w'.cell? ⟨q1, 3, none⟩ = some (.int .i64 rvr) ∧ w'.cell? ⟨q1, 4, none⟩ = some (.slice x1 rl1.length y1) ∧ w'.cell? ⟨q1, 5, none⟩ = some (.slice x2 rl2.length y2) ∧ w'.cell? ⟨q1, 6, none⟩ = some (.slice x3 rl3.length y3) ∧ w'.cell? ⟨q1, 7, none⟩ = some (.slice x4 rl4.length y4) ∧ w'.cell? ⟨q1, 8, none⟩ = some (.int .i64 rmn) ∧ w'.cell? ⟨q2, 0, none⟩ = some (.int .i64 rid) ∧ w'.cell? ⟨q2, 1, none⟩ = some (.int .i64 rld) ∧ w'.cell? ⟨q2, 2, none⟩ = some (.int .i64 rep) ∧ w'.cell? ⟨q2, 3, none⟩ = some (.int .i64 rvr) ∧ w'.cell? ⟨q2, 4, none⟩ = some (.slice t1 rl1.length u1) ∧ w'.cell? ⟨q2, 5, none⟩ = some (.slice t2 rl2.length u2) ∧ w'.cell? ⟨q2, 6, none⟩ = some (.slice t3 rl3.length u3) ∧ w'.cell? ⟨q2, 7, none⟩ = some (.slice t4 rl4.length u4) ∧ w'.cell? ⟨q2, 8, none⟩ = some (.int .i64 rmn)) (go_keep) (fail)
    all_goals
      obtain ⟨o1, o2⟩ := nine_off W5 (w.heap.size + 2) (.int .i64 rid) (.int .i64 rld) (.int .i64 rep) (.int .i64 rvr) (.slice x1 rl1.length y1) (.slice x2 rl2.length y2) (.slice x3 rl3.length y3) (.slice x4 rl4.length y4) (.int .i64 rmn)
      have HZ6 := hid (nine_q HT5.out.z rfl (.int .i64 rid) (.int .i64 rld) (.int .i64 rep) (.int .i64 rvr) (.slice x1 rl1.length y1) (.slice x2 rl2.length y2) (.slice x3 rl3.length y3) (.slice x4 rl4.length y4) (.int .i64 rmn))
      have HY6 := hid ((o1 _ e5').trans HT5.out.y)
      have HB6 := hid (nine_below HT5.out.b (Nat.le_add_right _ 2) (.int .i64 rid) (.int .i64 rld) (.int .i64 rep) (.int .i64 rvr) (.slice x1 rl1.length y1) (.slice x2 rl2.length y2) (.slice x3 rl3.length y3) (.slice x4 rl4.length y4) (.int .i64 rmn))
      have HPA := hid (HA5.out.off (HAi.out.mono fun b hb => by omega) o1 o2)
      have HPB := hid (HB.out.off (HBi.out.mono fun b hb => by omega) o1 o2)
      clear o1 o2 g0 g1 g2 g3 g4 g5 g6 g7 g8 h0 h1 h2 h3 h4 h5 h6 h7 h8 z0 z1 z2 z3 z4 z5 z6 z7 z8 yy0 yy1 yy2 yy3 yy4 yy5 yy6 yy7 yy8 fz fy
      generalize (((((((((W5.setCell ⟨w.heap.size + 2, 0, none⟩ (.int .i64 rid)).setCell ⟨w.heap.size + 2, 1, none⟩ (.int .i64 rld)).setCell ⟨w.heap.size + 2, 2, none⟩ (.int .i64 rep)).setCell ⟨w.heap.size + 2, 3, none⟩ (.int .i64 rvr)).setCell ⟨w.heap.size + 2, 4, none⟩ (.slice x1 rl1.length y1)).setCell ⟨w.heap.size + 2, 5, none⟩ (.slice x2 rl2.length y2)).setCell ⟨w.heap.size + 2, 6, none⟩ (.slice x3 rl3.length y3)).setCell ⟨w.heap.size + 2, 7, none⟩ (.slice x4 rl4.length y4)).setCell ⟨w.heap.size + 2, 8, none⟩ (.int .i64 rmn)) = W6 at *
      obtain ⟨o1, o2⟩ := nine_off W6 (w.heap.size + 3) (.int .i64 rid) (.int .i64 rld) (.int .i64 rep) (.int .i64 rvr) (.slice t1 rl1.length u1) (.slice t2 rl2.length u2) (.slice t3 rl3.length u3) (.slice t4 rl4.length u4) (.int .i64 rmn)
      have HZ7 := hid ((o1 _ e5).trans HZ6.out)
      have HY7 := hid (nine_q HY6.out rfl (.int .i64 rid) (.int .i64 rld) (.int .i64 rep) (.int .i64 rvr) (.slice t1 rl1.length u1) (.slice t2 rl2.length u2) (.slice t3 rl3.length u3) (.slice t4 rl4.length u4) (.int .i64 rmn))
      have HB7 := hid (nine_below HB6.out (Nat.le_add_right _ 3) (.int .i64 rid) (.int .i64 rld) (.int .i64 rep) (.int .i64 rvr) (.slice t1 rl1.length u1) (.slice t2 rl2.length u2) (.slice t3 rl3.length u3) (.slice t4 rl4.length u4) (.int .i64 rmn))
      have HPA7 := hid (HPA.out.off (HAi.out.mono fun b hb => by omega) o1 o2)
      have HPB7 := hid (HPB.out.off (HBi.out.mono fun b hb => by omega) o1 o2)
      clear o1 o2
      generalize (((((((((W6.setCell ⟨w.heap.size + 3, 0, none⟩ (.int .i64 rid)).setCell ⟨w.heap.size + 3, 1, none⟩ (.int .i64 rld)).setCell ⟨w.heap.size + 3, 2, none⟩ (.int .i64 rep)).setCell ⟨w.heap.size + 3, 3, none⟩ (.int .i64 rvr)).setCell ⟨w.heap.size + 3, 4, none⟩ (.slice t1 rl1.length u1)).setCell ⟨w.heap.size + 3, 5, none⟩ (.slice t2 rl2.length u2)).setCell ⟨w.heap.size + 3, 6, none⟩ (.slice t3 rl3.length u3)).setCell ⟨w.heap.size + 3, 7, none⟩ (.slice t4 rl4.length u4)).setCell ⟨w.heap.size + 3, 8, none⟩ (.int .i64 rmn)) = W7 at *
      go_wp2_with fail
      have r0 := cell_blk HZ7.out 0 _ rfl
      have r1 := cell_blk HZ7.out 1 _ rfl
      have r2 := cell_blk HZ7.out 2 _ rfl
      have r3 := cell_blk HZ7.out 3 _ rfl
      have r4 := cell_blk HZ7.out 4 _ rfl
      have r5 := cell_blk HZ7.out 5 _ rfl
      have r6 := cell_blk HZ7.out 6 _ rfl
      have r7 := cell_blk HZ7.out 7 _ rfl
      have r8 := cell_blk HZ7.out 8 _ rfl
      have s0 := cell_blk HY7.out 0 _ rfl
      have s1 := cell_blk HY7.out 1 _ rfl
      have s2 := cell_blk HY7.out 2 _ rfl
      have s3 := cell_blk HY7.out 3 _ rfl
      have s4 := cell_blk HY7.out 4 _ rfl
      have s5 := cell_blk HY7.out 5 _ rfl
      have s6 := cell_blk HY7.out 6 _ rfl
      have s7 := cell_blk HY7.out 7 _ rfl
      have s8 := cell_blk HY7.out 8 _ rfl
      exact bodyPost_ret (v := .tuple #[.agg #[.int .i64 rid, .int .i64 rld, .int .i64 rep, .int .i64 rvr, .slice x1 rl1.length y1, .slice x2 rl2.length y2, .slice x3 rl3.length y3, .slice x4 rl4.length y4, .int .i64 rmn], .int .i64 re, .agg #[.int .i64 rid, .int .i64 rld, .int .i64 rep, .int .i64 rvr, .slice t1 rl1.length u1, .slice t2 rl2.length u2, .slice t3 rl3.length u3, .slice t4 rl4.length u4, .int .i64 rmn], .int .i64 re]) (by simp [results, Try.results10, go_sem, r0, r1, r2, r3, r4, r5, r6, r7, r8, s0, s1, s2, s3, s4, s5, s6, s7, s8]) rfl ⟨_, _, rfl, HPA7.out.under (Below.refl _ _).drew, HAi.out.mono fun b hb => by omega, HPB7.out.under (Below.refl _ _).drew, HBi.out.mono fun b hb => by omega, HB7.out.drew⟩
  · have HDK : Hid ((⟨rid, rld, rep, rvr, rl1, rl2, rl3, rl4, rmn⟩, re) = beginP ⟨id, ld, ep, vr, isr, reps, add, rem, mn⟩ ol ou) := by show _ = _; rw [HD.out]; simp
    have GA : Hid (∀ W, Below w.heap.size w W → Calls Try.prog 19 #[.agg #[.int .i64 id, .int .i64 ld, .int .i64 ep, .int .i64 vr, .slice a1 isr.length c1, .slice a2 reps.length c2, .slice a3 add.length c3, .slice a4 rem.length c4, .int .i64 mn], .slice la ol.length lc, .slice ua ou.length uc] W fun e w' => Res (fun b => W.heap.size ≤ b) W (⟨rid, rld, rep, rvr, rl1, rl2, rl3, rl4, rmn⟩, re) e w') := fun W hb => by rw [HDK.out]; exact begin_any (HP.out W hb) (QL.out.under hb) (QU.out.under hb)
    have GB : Hid (∀ W, Below w.heap.size w W → Calls Try.prog 33 #[.agg #[.int .i64 id, .int .i64 ld, .int .i64 ep, .int .i64 vr, .slice a1 isr.length c1, .slice a2 reps.length c2, .slice a3 add.length c3, .slice a4 rem.length c4, .int .i64 mn], .slice la ol.length lc, .slice ua ou.length uc] W fun e w' => Res (fun b => W.heap.size ≤ b) W (⟨rid, rld, rep, rvr, rl1, rl2, rl3, rl4, rmn⟩, re) e w') := fun W hb => by rw [HDK.out]; exact rbegin_any (HP.out W hb) (QL.out.under hb) (QU.out.under hb)
    clear HD HDK
    go_wp2_with fail
    refine (GA.out _ HT0.out.b).mono ?_
    rintro e W2 ⟨v', rfl, h1, h2, hb⟩
    have HSZ : Hid (w.heap.size + 3 < W0.heap.size) := lt_blk HT0.out.y
    have HIA := hid (h2.mono (Y := fun b => w.heap.size + 4 ≤ b) fun b hx => by have := HSZ.out; omega)
    obtain ⟨x1, y1, x2, y2, x3, y3, x4, y4, rfl, _⟩ := h1.open
    have H1 : Hid (PartM W2 (.agg #[.int .i64 rid, .int .i64 rld, .int .i64 rep, .int .i64 rvr, .slice x1 rl1.length y1, .slice x2 rl2.length y2, .slice x3 rl3.length y3, .slice x4 rl4.length y4, .int .i64 rmn]) ⟨rid, rld, rep, rvr, rl1, rl2, rl3, rl4, rmn⟩) := h1
    have HAi : Hid (InP (fun b => w.heap.size + 4 ≤ b) (.agg #[.int .i64 rid, .int .i64 rld, .int .i64 rep, .int .i64 rvr, .slice x1 rl1.length y1, .slice x2 rl2.length y2, .slice x3 rl3.length y3, .slice x4 rl4.length y4, .int .i64 rmn]) ⟨rid, rld, rep, rvr, rl1, rl2, rl3, rl4, rmn⟩) := HIA.out
    have HTb := hid (HT0.out.next hb)
    have hbx := hb
    clear h1 h2 HIA k0 k1 k2 k3 k4 k5 k6 k7 k8 m0 m1 m2 m3 m4 m5
    go_upto_region 20 with fail
    have hA : Below W2.heap.size W2 (W2.alloc (.cells #[.int .i64 rid, .int .i64 rld, .int .i64 rep, .int .i64 rvr, .slice x1 rl1.length y1, .slice x2 rl2.length y2, .slice x3 rl3.length y3, .slice x4 rl4.length y4, .int .i64 rmn] 24)) := (Below.refl _ _).alloc (Nat.le_refl _) _
    have HT3 := hid (HTb.out.next hA)
    have HA := hid (H1.out.under hA)
    have HAq : Hid ((W2.alloc (.cells #[.int .i64 rid, .int .i64 rld, .int .i64 rep, .int .i64 rvr, .slice x1 rl1.length y1, .slice x2 rl2.length y2, .slice x3 rl3.length y3, .slice x4 rl4.length y4, .int .i64 rmn] 24)).heap[W2.heap.size]? = some (.cells #[.int .i64 rid, .int .i64 rld, .int .i64 rep, .int .i64 rvr, .slice x1 rl1.length y1, .slice x2 rl2.length y2, .slice x3 rl3.length y3, .slice x4 rl4.length y4, .int .i64 rmn] 24)) := heap_alloc_new _ _
    have HAn : Hid (w.heap.size + 4 ≤ W2.heap.size) := by show _ ≤ _; have := lt_blk HTb.out.y; omega
    clear hA hb hbx HTb H1 HSZ
    generalize W2.alloc (.cells #[.int .i64 rid, .int .i64 rld, .int .i64 rep, .int .i64 rvr, .slice x1 rl1.length y1, .slice x2 rl2.length y2, .slice x3 rl3.length y3, .slice x4 rl4.length y4, .int .i64 rmn] 24) = W3 at *
    generalize W2.heap.size = q1 at *
    have k0 := cell_blk HT3.out.x 0 _ rfl
    have k1 := cell_blk HT3.out.x 1 _ rfl
    have k2 := cell_blk HT3.out.x 2 _ rfl
    have k3 := cell_blk HT3.out.x 3 _ rfl
    have k4 := cell_blk HT3.out.x 4 _ rfl
    have k5 := cell_blk HT3.out.x 5 _ rfl
    have k6 := cell_blk HT3.out.x 6 _ rfl
    have k7 := cell_blk HT3.out.x 7 _ rfl
    have k8 := cell_blk HT3.out.x 8 _ rfl
    have m0 := cell_blk HT3.out.o 0 _ rfl
    have m1 := cell_blk HT3.out.o 1 _ rfl
    have m2 := cell_blk HT3.out.o 2 _ rfl
    have m3 := cell_blk HT3.out.o 3 _ rfl
    have m4 := cell_blk HT3.out.o 4 _ rfl
    have m5 := cell_blk HT3.out.o 5 _ rfl
    go_wp2_with fail
    refine (GB.out _ HT3.out.b).mono ?_
    rintro e W4 ⟨v', rfl, h1, h2, hb⟩
    have HSZ : Hid (w.heap.size + 3 < W3.heap.size) := lt_blk HT3.out.y
    have HIA := hid (h2.mono (Y := fun b => w.heap.size + 4 ≤ b) fun b hx => by have := HSZ.out; omega)
    obtain ⟨t1, u1, t2, u2, t3, u3, t4, u4, rfl, _⟩ := h1.open
    have H1 : Hid (PartM W4 (.agg #[.int .i64 rid, .int .i64 rld, .int .i64 rep, .int .i64 rvr, .slice t1 rl1.length u1, .slice t2 rl2.length u2, .slice t3 rl3.length u3, .slice t4 rl4.length u4, .int .i64 rmn]) ⟨rid, rld, rep, rvr, rl1, rl2, rl3, rl4, rmn⟩) := h1
    have HBi : Hid (InP (fun b => w.heap.size + 4 ≤ b) (.agg #[.int .i64 rid, .int .i64 rld, .int .i64 rep, .int .i64 rvr, .slice t1 rl1.length u1, .slice t2 rl2.length u2, .slice t3 rl3.length u3, .slice t4 rl4.length u4, .int .i64 rmn]) ⟨rid, rld, rep, rvr, rl1, rl2, rl3, rl4, rmn⟩) := HIA.out
    have HTb := hid (HT3.out.next hb)
    have hbx := hb
    clear h1 h2 HIA k0 k1 k2 k3 k4 k5 k6 k7 k8 m0 m1 m2 m3 m4 m5
    go_upto_region 21 with fail
    have hA : Below W4.heap.size W4 (W4.alloc (.cells #[.int .i64 rid, .int .i64 rld, .int .i64 rep, .int .i64 rvr, .slice t1 rl1.length u1, .slice t2 rl2.length u2, .slice t3 rl3.length u3, .slice t4 rl4.length u4, .int .i64 rmn] 24)) := (Below.refl _ _).alloc (Nat.le_refl _) _
    have HT5 := hid (HTb.out.next hA)
    have HB := hid (H1.out.under hA)
    have HBq : Hid ((W4.alloc (.cells #[.int .i64 rid, .int .i64 rld, .int .i64 rep, .int .i64 rvr, .slice t1 rl1.length u1, .slice t2 rl2.length u2, .slice t3 rl3.length u3, .slice t4 rl4.length u4, .int .i64 rmn] 24)).heap[W4.heap.size]? = some (.cells #[.int .i64 rid, .int .i64 rld, .int .i64 rep, .int .i64 rvr, .slice t1 rl1.length u1, .slice t2 rl2.length u2, .slice t3 rl3.length u3, .slice t4 rl4.length u4, .int .i64 rmn] 24)) := heap_alloc_new _ _
    have HBn : Hid (w.heap.size + 4 ≤ W4.heap.size) := by show _ ≤ _; have := lt_blk HTb.out.y; omega
    have HA5 := hid ((HA.out.under hbx).under hA)
    have HAq5 := hid (blk_under (blk_under HAq.out hbx) hA)
    have HNE : Hid (q1 < W4.heap.size) := lt_blk (blk_under HAq.out hbx)
    clear hA hb hbx HTb H1 HSZ
    generalize W4.alloc (.cells #[.int .i64 rid, .int .i64 rld, .int .i64 rep, .int .i64 rvr, .slice t1 rl1.length u1, .slice t2 rl2.length u2, .slice t3 rl3.length u3, .slice t4 rl4.length u4, .int .i64 rmn] 24) = W5 at *
    generalize W4.heap.size = q2 at *
    have k0 := cell_blk HT5.out.x 0 _ rfl
    have k1 := cell_blk HT5.out.x 1 _ rfl
    have k2 := cell_blk HT5.out.x 2 _ rfl
    have k3 := cell_blk HT5.out.x 3 _ rfl
    have k4 := cell_blk HT5.out.x 4 _ rfl
    have k5 := cell_blk HT5.out.x 5 _ rfl
    have k6 := cell_blk HT5.out.x 6 _ rfl
    have k7 := cell_blk HT5.out.x 7 _ rfl
    have k8 := cell_blk HT5.out.x 8 _ rfl
    have m0 := cell_blk HT5.out.o 0 _ rfl
    have m1 := cell_blk HT5.out.o 1 _ rfl
    have m2 := cell_blk HT5.out.o 2 _ rfl
    have m3 := cell_blk HT5.out.o 3 _ rfl
    have m4 := cell_blk HT5.out.o 4 _ rfl
    have m5 := cell_blk HT5.out.o 5 _ rfl
    clear k0 k1 k2 k3 k4 k5 k6 k7 k8 m0 m1 m2 m3 m4 m5 HA HAq
    have hq1 := HAn.out
    have hq2 := HNE.out
    have hq3 := HBn.out
    have e1 : ¬ q1 = w.heap.size + 2 := by omega
    have e1' : ¬ w.heap.size + 2 = q1 := by omega
    have e2 : ¬ q1 = w.heap.size + 3 := by omega
    have e2' : ¬ w.heap.size + 3 = q1 := by omega
    have e3 : ¬ q2 = w.heap.size + 2 := by omega
    have e3' : ¬ w.heap.size + 2 = q2 := by omega
    have e4 : ¬ q2 = w.heap.size + 3 := by omega
    have e4' : ¬ w.heap.size + 3 = q2 := by omega
    have e5 : ¬ w.heap.size + 2 = w.heap.size + 3 := by omega
    have e5' : ¬ w.heap.size + 3 = w.heap.size + 2 := by omega
    clear hq1 hq2 hq3
    have g0 := cell_blk HAq5.out 0 _ rfl
    have g1 := cell_blk HAq5.out 1 _ rfl
    have g2 := cell_blk HAq5.out 2 _ rfl
    have g3 := cell_blk HAq5.out 3 _ rfl
    have g4 := cell_blk HAq5.out 4 _ rfl
    have g5 := cell_blk HAq5.out 5 _ rfl
    have g6 := cell_blk HAq5.out 6 _ rfl
    have g7 := cell_blk HAq5.out 7 _ rfl
    have g8 := cell_blk HAq5.out 8 _ rfl
    have h0 := cell_blk HBq.out 0 _ rfl
    have h1 := cell_blk HBq.out 1 _ rfl
    have h2 := cell_blk HBq.out 2 _ rfl
    have h3 := cell_blk HBq.out 3 _ rfl
    have h4 := cell_blk HBq.out 4 _ rfl
    have h5 := cell_blk HBq.out 5 _ rfl
    have h6 := cell_blk HBq.out 6 _ rfl
    have h7 := cell_blk HBq.out 7 _ rfl
    have h8 := cell_blk HBq.out 8 _ rfl
    have z0 := cell_blk HT5.out.z 0 _ rfl
    have z1 := cell_blk HT5.out.z 1 _ rfl
    have z2 := cell_blk HT5.out.z 2 _ rfl
    have z3 := cell_blk HT5.out.z 3 _ rfl
    have z4 := cell_blk HT5.out.z 4 _ rfl
    have z5 := cell_blk HT5.out.z 5 _ rfl
    have z6 := cell_blk HT5.out.z 6 _ rfl
    have z7 := cell_blk HT5.out.z 7 _ rfl
    have z8 := cell_blk HT5.out.z 8 _ rfl
    have yy0 := cell_blk HT5.out.y 0 _ rfl
    have yy1 := cell_blk HT5.out.y 1 _ rfl
    have yy2 := cell_blk HT5.out.y 2 _ rfl
    have yy3 := cell_blk HT5.out.y 3 _ rfl
    have yy4 := cell_blk HT5.out.y 4 _ rfl
    have yy5 := cell_blk HT5.out.y 5 _ rfl
    have yy6 := cell_blk HT5.out.y 6 _ rfl
    have yy7 := cell_blk HT5.out.y 7 _ rfl
    have yy8 := cell_blk HT5.out.y 8 _ rfl
    have fz := frz_blk HT5.out.z
    have fy := frz_blk HT5.out.y
    go_region_held3 (fun w' => w'.cell? ⟨q1, 0, none⟩ = some (.int .i64 rid) ∧ w'.cell? ⟨q1, 1, none⟩ = some (.int .i64 rld) ∧ w'.cell? ⟨q1, 2, none⟩ = some (.int .i64 rep) ∧ w'.cell? ⟨q1, 3, none⟩ = some (.int .i64 rvr) ∧ w'.cell? ⟨q1, 4, none⟩ = some (.slice x1 rl1.length y1) ∧ w'.cell? ⟨q1, 5, none⟩ = some (.slice x2 rl2.length y2) ∧ w'.cell? ⟨q1, 6, none⟩ = some (.slice x3 rl3.length y3) ∧ w'.cell? ⟨q1, 7, none⟩ = some (.slice x4 rl4.length y4) ∧ w'.cell? ⟨q1, 8, none⟩ = some (.int .i64 rmn) ∧ w'.cell? ⟨q2, 0, none⟩ = some (.int .i64 rid) ∧ w'.cell? ⟨q2, 1, none⟩ = some (.int .i64 rld) ∧ w'.cell? ⟨q2, 2, none⟩ = some (.int .i64 rep) ∧ w'.cell? ⟨q2, 3, none⟩ = some (.int .i64 rvr) ∧ w'.cell? ⟨q2, 4, none⟩ = some (.slice t1 rl1.length u1) ∧ w'.cell? ⟨q2, 5, none⟩ = some (.slice t2 rl2.length u2) ∧ w'.cell? ⟨q2, 6, none⟩ = some (.slice t3 rl3.length u3) ∧ w'.cell? ⟨q2, 7, none⟩ = some (.slice t4 rl4.length u4) ∧ w'.cell? ⟨q2, 8, none⟩ = some (.int .i64 rmn)) (go_keep) (fail)
    all_goals
      obtain ⟨o1, o2⟩ := nine_off W5 (w.heap.size + 2) (.int .i64 rid) (.int .i64 rld) (.int .i64 rep) (.int .i64 rvr) (.slice x1 rl1.length y1) (.slice x2 rl2.length y2) (.slice x3 rl3.length y3) (.slice x4 rl4.length y4) (.int .i64 rmn)
      have HZ6 := hid (nine_q HT5.out.z rfl (.int .i64 rid) (.int .i64 rld) (.int .i64 rep) (.int .i64 rvr) (.slice x1 rl1.length y1) (.slice x2 rl2.length y2) (.slice x3 rl3.length y3) (.slice x4 rl4.length y4) (.int .i64 rmn))
      have HY6 := hid ((o1 _ e5').trans HT5.out.y)
      have HB6 := hid (nine_below HT5.out.b (Nat.le_add_right _ 2) (.int .i64 rid) (.int .i64 rld) (.int .i64 rep) (.int .i64 rvr) (.slice x1 rl1.length y1) (.slice x2 rl2.length y2) (.slice x3 rl3.length y3) (.slice x4 rl4.length y4) (.int .i64 rmn))
      have HPA := hid (HA5.out.off (HAi.out.mono fun b hb => by omega) o1 o2)
      have HPB := hid (HB.out.off (HBi.out.mono fun b hb => by omega) o1 o2)
      clear o1 o2 g0 g1 g2 g3 g4 g5 g6 g7 g8 h0 h1 h2 h3 h4 h5 h6 h7 h8 z0 z1 z2 z3 z4 z5 z6 z7 z8 yy0 yy1 yy2 yy3 yy4 yy5 yy6 yy7 yy8 fz fy
      generalize (((((((((W5.setCell ⟨w.heap.size + 2, 0, none⟩ (.int .i64 rid)).setCell ⟨w.heap.size + 2, 1, none⟩ (.int .i64 rld)).setCell ⟨w.heap.size + 2, 2, none⟩ (.int .i64 rep)).setCell ⟨w.heap.size + 2, 3, none⟩ (.int .i64 rvr)).setCell ⟨w.heap.size + 2, 4, none⟩ (.slice x1 rl1.length y1)).setCell ⟨w.heap.size + 2, 5, none⟩ (.slice x2 rl2.length y2)).setCell ⟨w.heap.size + 2, 6, none⟩ (.slice x3 rl3.length y3)).setCell ⟨w.heap.size + 2, 7, none⟩ (.slice x4 rl4.length y4)).setCell ⟨w.heap.size + 2, 8, none⟩ (.int .i64 rmn)) = W6 at *
      obtain ⟨o1, o2⟩ := nine_off W6 (w.heap.size + 3) (.int .i64 rid) (.int .i64 rld) (.int .i64 rep) (.int .i64 rvr) (.slice t1 rl1.length u1) (.slice t2 rl2.length u2) (.slice t3 rl3.length u3) (.slice t4 rl4.length u4) (.int .i64 rmn)
      have HZ7 := hid ((o1 _ e5).trans HZ6.out)
      have HY7 := hid (nine_q HY6.out rfl (.int .i64 rid) (.int .i64 rld) (.int .i64 rep) (.int .i64 rvr) (.slice t1 rl1.length u1) (.slice t2 rl2.length u2) (.slice t3 rl3.length u3) (.slice t4 rl4.length u4) (.int .i64 rmn))
      have HB7 := hid (nine_below HB6.out (Nat.le_add_right _ 3) (.int .i64 rid) (.int .i64 rld) (.int .i64 rep) (.int .i64 rvr) (.slice t1 rl1.length u1) (.slice t2 rl2.length u2) (.slice t3 rl3.length u3) (.slice t4 rl4.length u4) (.int .i64 rmn))
      have HPA7 := hid (HPA.out.off (HAi.out.mono fun b hb => by omega) o1 o2)
      have HPB7 := hid (HPB.out.off (HBi.out.mono fun b hb => by omega) o1 o2)
      clear o1 o2
      generalize (((((((((W6.setCell ⟨w.heap.size + 3, 0, none⟩ (.int .i64 rid)).setCell ⟨w.heap.size + 3, 1, none⟩ (.int .i64 rld)).setCell ⟨w.heap.size + 3, 2, none⟩ (.int .i64 rep)).setCell ⟨w.heap.size + 3, 3, none⟩ (.int .i64 rvr)).setCell ⟨w.heap.size + 3, 4, none⟩ (.slice t1 rl1.length u1)).setCell ⟨w.heap.size + 3, 5, none⟩ (.slice t2 rl2.length u2)).setCell ⟨w.heap.size + 3, 6, none⟩ (.slice t3 rl3.length u3)).setCell ⟨w.heap.size + 3, 7, none⟩ (.slice t4 rl4.length u4)).setCell ⟨w.heap.size + 3, 8, none⟩ (.int .i64 rmn)) = W7 at *
      go_wp2_with fail
      have r0 := cell_blk HZ7.out 0 _ rfl
      have r1 := cell_blk HZ7.out 1 _ rfl
      have r2 := cell_blk HZ7.out 2 _ rfl
      have r3 := cell_blk HZ7.out 3 _ rfl
      have r4 := cell_blk HZ7.out 4 _ rfl
      have r5 := cell_blk HZ7.out 5 _ rfl
      have r6 := cell_blk HZ7.out 6 _ rfl
      have r7 := cell_blk HZ7.out 7 _ rfl
      have r8 := cell_blk HZ7.out 8 _ rfl
      have s0 := cell_blk HY7.out 0 _ rfl
      have s1 := cell_blk HY7.out 1 _ rfl
      have s2 := cell_blk HY7.out 2 _ rfl
      have s3 := cell_blk HY7.out 3 _ rfl
      have s4 := cell_blk HY7.out 4 _ rfl
      have s5 := cell_blk HY7.out 5 _ rfl
      have s6 := cell_blk HY7.out 6 _ rfl
      have s7 := cell_blk HY7.out 7 _ rfl
      have s8 := cell_blk HY7.out 8 _ rfl
      exact bodyPost_ret (v := .tuple #[.agg #[.int .i64 rid, .int .i64 rld, .int .i64 rep, .int .i64 rvr, .slice x1 rl1.length y1, .slice x2 rl2.length y2, .slice x3 rl3.length y3, .slice x4 rl4.length y4, .int .i64 rmn], .int .i64 re, .agg #[.int .i64 rid, .int .i64 rld, .int .i64 rep, .int .i64 rvr, .slice t1 rl1.length u1, .slice t2 rl2.length u2, .slice t3 rl3.length u3, .slice t4 rl4.length u4, .int .i64 rmn], .int .i64 re]) (by simp [results, Try.results10, go_sem, r0, r1, r2, r3, r4, r5, r6, r7, r8, s0, s1, s2, s3, s4, s5, s6, s7, s8]) rfl ⟨_, _, rfl, HPA7.out.under (Below.refl _ _).drew, HAi.out.mono fun b hb => by omega, HPB7.out.under (Below.refl _ _).drew, HBi.out.mono fun b hb => by omega, HB7.out.drew⟩
  · have HDK : Hid ((⟨rid, rld, rep, rvr, rl1, rl2, rl3, rl4, rmn⟩, re) = cancelP ⟨id, ld, ep, vr, isr, reps, add, rem, mn⟩ ou) := by show _ = _; rw [HD.out]; simp
    have GA : Hid (∀ W, Below w.heap.size w W → Calls Try.prog 20 #[.agg #[.int .i64 id, .int .i64 ld, .int .i64 ep, .int .i64 vr, .slice a1 isr.length c1, .slice a2 reps.length c2, .slice a3 add.length c3, .slice a4 rem.length c4, .int .i64 mn], .slice ua ou.length uc] W fun e w' => Res (fun b => W.heap.size ≤ b) W (⟨rid, rld, rep, rvr, rl1, rl2, rl3, rl4, rmn⟩, re) e w') := fun W hb => by rw [HDK.out]; exact cancel_any (HP.out W hb) (QU.out.under hb)
    have GB : Hid (∀ W, Below w.heap.size w W → Calls Try.prog 35 #[.agg #[.int .i64 id, .int .i64 ld, .int .i64 ep, .int .i64 vr, .slice a1 isr.length c1, .slice a2 reps.length c2, .slice a3 add.length c3, .slice a4 rem.length c4, .int .i64 mn], .slice ua ou.length uc] W fun e w' => Res (fun b => W.heap.size ≤ b) W (⟨rid, rld, rep, rvr, rl1, rl2, rl3, rl4, rmn⟩, re) e w') := fun W hb => by rw [HDK.out]; exact rcancel_any (HP.out W hb) (QU.out.under hb)
    clear HD HDK
    go_wp2_with fail
    refine (G16.out _).mono ?_
    rintro e W1 ⟨rfl, rfl⟩
    go_wp2_with fail
    refine (GA.out _ HT0.out.b).mono ?_
    rintro e W2 ⟨v', rfl, h1, h2, hb⟩
    have HSZ : Hid (w.heap.size + 3 < W0.heap.size) := lt_blk HT0.out.y
    have HIA := hid (h2.mono (Y := fun b => w.heap.size + 4 ≤ b) fun b hx => by have := HSZ.out; omega)
    obtain ⟨x1, y1, x2, y2, x3, y3, x4, y4, rfl, _⟩ := h1.open
    have H1 : Hid (PartM W2 (.agg #[.int .i64 rid, .int .i64 rld, .int .i64 rep, .int .i64 rvr, .slice x1 rl1.length y1, .slice x2 rl2.length y2, .slice x3 rl3.length y3, .slice x4 rl4.length y4, .int .i64 rmn]) ⟨rid, rld, rep, rvr, rl1, rl2, rl3, rl4, rmn⟩) := h1
    have HAi : Hid (InP (fun b => w.heap.size + 4 ≤ b) (.agg #[.int .i64 rid, .int .i64 rld, .int .i64 rep, .int .i64 rvr, .slice x1 rl1.length y1, .slice x2 rl2.length y2, .slice x3 rl3.length y3, .slice x4 rl4.length y4, .int .i64 rmn]) ⟨rid, rld, rep, rvr, rl1, rl2, rl3, rl4, rmn⟩) := HIA.out
    have HTb := hid (HT0.out.next hb)
    have hbx := hb
    clear h1 h2 HIA k0 k1 k2 k3 k4 k5 k6 k7 k8 m0 m1 m2 m3 m4 m5
    go_upto_region 27 with fail
    have hA : Below W2.heap.size W2 (W2.alloc (.cells #[.int .i64 rid, .int .i64 rld, .int .i64 rep, .int .i64 rvr, .slice x1 rl1.length y1, .slice x2 rl2.length y2, .slice x3 rl3.length y3, .slice x4 rl4.length y4, .int .i64 rmn] 24)) := (Below.refl _ _).alloc (Nat.le_refl _) _
    have HT3 := hid (HTb.out.next hA)
    have HA := hid (H1.out.under hA)
    have HAq : Hid ((W2.alloc (.cells #[.int .i64 rid, .int .i64 rld, .int .i64 rep, .int .i64 rvr, .slice x1 rl1.length y1, .slice x2 rl2.length y2, .slice x3 rl3.length y3, .slice x4 rl4.length y4, .int .i64 rmn] 24)).heap[W2.heap.size]? = some (.cells #[.int .i64 rid, .int .i64 rld, .int .i64 rep, .int .i64 rvr, .slice x1 rl1.length y1, .slice x2 rl2.length y2, .slice x3 rl3.length y3, .slice x4 rl4.length y4, .int .i64 rmn] 24)) := heap_alloc_new _ _
    have HAn : Hid (w.heap.size + 4 ≤ W2.heap.size) := by show _ ≤ _; have := lt_blk HTb.out.y; omega
    clear hA hb hbx HTb H1 HSZ
    generalize W2.alloc (.cells #[.int .i64 rid, .int .i64 rld, .int .i64 rep, .int .i64 rvr, .slice x1 rl1.length y1, .slice x2 rl2.length y2, .slice x3 rl3.length y3, .slice x4 rl4.length y4, .int .i64 rmn] 24) = W3 at *
    generalize W2.heap.size = q1 at *
    have k0 := cell_blk HT3.out.x 0 _ rfl
    have k1 := cell_blk HT3.out.x 1 _ rfl
    have k2 := cell_blk HT3.out.x 2 _ rfl
    have k3 := cell_blk HT3.out.x 3 _ rfl
    have k4 := cell_blk HT3.out.x 4 _ rfl
    have k5 := cell_blk HT3.out.x 5 _ rfl
    have k6 := cell_blk HT3.out.x 6 _ rfl
    have k7 := cell_blk HT3.out.x 7 _ rfl
    have k8 := cell_blk HT3.out.x 8 _ rfl
    have m0 := cell_blk HT3.out.o 0 _ rfl
    have m1 := cell_blk HT3.out.o 1 _ rfl
    have m2 := cell_blk HT3.out.o 2 _ rfl
    have m3 := cell_blk HT3.out.o 3 _ rfl
    have m4 := cell_blk HT3.out.o 4 _ rfl
    have m5 := cell_blk HT3.out.o 5 _ rfl
    go_wp2_with fail
    refine (GB.out _ HT3.out.b).mono ?_
    rintro e W4 ⟨v', rfl, h1, h2, hb⟩
    have HSZ : Hid (w.heap.size + 3 < W3.heap.size) := lt_blk HT3.out.y
    have HIA := hid (h2.mono (Y := fun b => w.heap.size + 4 ≤ b) fun b hx => by have := HSZ.out; omega)
    obtain ⟨t1, u1, t2, u2, t3, u3, t4, u4, rfl, _⟩ := h1.open
    have H1 : Hid (PartM W4 (.agg #[.int .i64 rid, .int .i64 rld, .int .i64 rep, .int .i64 rvr, .slice t1 rl1.length u1, .slice t2 rl2.length u2, .slice t3 rl3.length u3, .slice t4 rl4.length u4, .int .i64 rmn]) ⟨rid, rld, rep, rvr, rl1, rl2, rl3, rl4, rmn⟩) := h1
    have HBi : Hid (InP (fun b => w.heap.size + 4 ≤ b) (.agg #[.int .i64 rid, .int .i64 rld, .int .i64 rep, .int .i64 rvr, .slice t1 rl1.length u1, .slice t2 rl2.length u2, .slice t3 rl3.length u3, .slice t4 rl4.length u4, .int .i64 rmn]) ⟨rid, rld, rep, rvr, rl1, rl2, rl3, rl4, rmn⟩) := HIA.out
    have HTb := hid (HT3.out.next hb)
    have hbx := hb
    clear h1 h2 HIA k0 k1 k2 k3 k4 k5 k6 k7 k8 m0 m1 m2 m3 m4 m5
    go_upto_region 28 with fail
    have hA : Below W4.heap.size W4 (W4.alloc (.cells #[.int .i64 rid, .int .i64 rld, .int .i64 rep, .int .i64 rvr, .slice t1 rl1.length u1, .slice t2 rl2.length u2, .slice t3 rl3.length u3, .slice t4 rl4.length u4, .int .i64 rmn] 24)) := (Below.refl _ _).alloc (Nat.le_refl _) _
    have HT5 := hid (HTb.out.next hA)
    have HB := hid (H1.out.under hA)
    have HBq : Hid ((W4.alloc (.cells #[.int .i64 rid, .int .i64 rld, .int .i64 rep, .int .i64 rvr, .slice t1 rl1.length u1, .slice t2 rl2.length u2, .slice t3 rl3.length u3, .slice t4 rl4.length u4, .int .i64 rmn] 24)).heap[W4.heap.size]? = some (.cells #[.int .i64 rid, .int .i64 rld, .int .i64 rep, .int .i64 rvr, .slice t1 rl1.length u1, .slice t2 rl2.length u2, .slice t3 rl3.length u3, .slice t4 rl4.length u4, .int .i64 rmn] 24)) := heap_alloc_new _ _
    have HBn : Hid (w.heap.size + 4 ≤ W4.heap.size) := by show _ ≤ _; have := lt_blk HTb.out.y; omega
    have HA5 := hid ((HA.out.under hbx).under hA)
    have HAq5 := hid (blk_under (blk_under HAq.out hbx) hA)
    have HNE : Hid (q1 < W4.heap.size) := lt_blk (blk_under HAq.out hbx)
    clear hA hb hbx HTb H1 HSZ
    generalize W4.alloc (.cells #[.int .i64 rid, .int .i64 rld, .int .i64 rep, .int .i64 rvr, .slice t1 rl1.length u1, .slice t2 rl2.length u2, .slice t3 rl3.length u3, .slice t4 rl4.length u4, .int .i64 rmn] 24) = W5 at *
    generalize W4.heap.size = q2 at *
    have k0 := cell_blk HT5.out.x 0 _ rfl
    have k1 := cell_blk HT5.out.x 1 _ rfl
    have k2 := cell_blk HT5.out.x 2 _ rfl
    have k3 := cell_blk HT5.out.x 3 _ rfl
    have k4 := cell_blk HT5.out.x 4 _ rfl
    have k5 := cell_blk HT5.out.x 5 _ rfl
    have k6 := cell_blk HT5.out.x 6 _ rfl
    have k7 := cell_blk HT5.out.x 7 _ rfl
    have k8 := cell_blk HT5.out.x 8 _ rfl
    have m0 := cell_blk HT5.out.o 0 _ rfl
    have m1 := cell_blk HT5.out.o 1 _ rfl
    have m2 := cell_blk HT5.out.o 2 _ rfl
    have m3 := cell_blk HT5.out.o 3 _ rfl
    have m4 := cell_blk HT5.out.o 4 _ rfl
    have m5 := cell_blk HT5.out.o 5 _ rfl
    clear k0 k1 k2 k3 k4 k5 k6 k7 k8 m0 m1 m2 m3 m4 m5 HA HAq
    have hq1 := HAn.out
    have hq2 := HNE.out
    have hq3 := HBn.out
    have e1 : ¬ q1 = w.heap.size + 2 := by omega
    have e1' : ¬ w.heap.size + 2 = q1 := by omega
    have e2 : ¬ q1 = w.heap.size + 3 := by omega
    have e2' : ¬ w.heap.size + 3 = q1 := by omega
    have e3 : ¬ q2 = w.heap.size + 2 := by omega
    have e3' : ¬ w.heap.size + 2 = q2 := by omega
    have e4 : ¬ q2 = w.heap.size + 3 := by omega
    have e4' : ¬ w.heap.size + 3 = q2 := by omega
    have e5 : ¬ w.heap.size + 2 = w.heap.size + 3 := by omega
    have e5' : ¬ w.heap.size + 3 = w.heap.size + 2 := by omega
    clear hq1 hq2 hq3
    have g0 := cell_blk HAq5.out 0 _ rfl
    have g1 := cell_blk HAq5.out 1 _ rfl
    have g2 := cell_blk HAq5.out 2 _ rfl
    have g3 := cell_blk HAq5.out 3 _ rfl
    have g4 := cell_blk HAq5.out 4 _ rfl
    have g5 := cell_blk HAq5.out 5 _ rfl
    have g6 := cell_blk HAq5.out 6 _ rfl
    have g7 := cell_blk HAq5.out 7 _ rfl
    have g8 := cell_blk HAq5.out 8 _ rfl
    have h0 := cell_blk HBq.out 0 _ rfl
    have h1 := cell_blk HBq.out 1 _ rfl
    have h2 := cell_blk HBq.out 2 _ rfl
    have h3 := cell_blk HBq.out 3 _ rfl
    have h4 := cell_blk HBq.out 4 _ rfl
    have h5 := cell_blk HBq.out 5 _ rfl
    have h6 := cell_blk HBq.out 6 _ rfl
    have h7 := cell_blk HBq.out 7 _ rfl
    have h8 := cell_blk HBq.out 8 _ rfl
    have z0 := cell_blk HT5.out.z 0 _ rfl
    have z1 := cell_blk HT5.out.z 1 _ rfl
    have z2 := cell_blk HT5.out.z 2 _ rfl
    have z3 := cell_blk HT5.out.z 3 _ rfl
    have z4 := cell_blk HT5.out.z 4 _ rfl
    have z5 := cell_blk HT5.out.z 5 _ rfl
    have z6 := cell_blk HT5.out.z 6 _ rfl
    have z7 := cell_blk HT5.out.z 7 _ rfl
    have z8 := cell_blk HT5.out.z 8 _ rfl
    have yy0 := cell_blk HT5.out.y 0 _ rfl
    have yy1 := cell_blk HT5.out.y 1 _ rfl
    have yy2 := cell_blk HT5.out.y 2 _ rfl
    have yy3 := cell_blk HT5.out.y 3 _ rfl
    have yy4 := cell_blk HT5.out.y 4 _ rfl
    have yy5 := cell_blk HT5.out.y 5 _ rfl
    have yy6 := cell_blk HT5.out.y 6 _ rfl
    have yy7 := cell_blk HT5.out.y 7 _ rfl
    have yy8 := cell_blk HT5.out.y 8 _ rfl
    have fz := frz_blk HT5.out.z
    have fy := frz_blk HT5.out.y
    go_region_held3 (fun w' => w'.cell? ⟨q1, 0, none⟩ = some (.int .i64 rid) ∧ w'.cell? ⟨q1, 1, none⟩ = some (.int .i64 rld) ∧ w'.cell? ⟨q1, 2, none⟩ = some (.int .i64 rep) ∧ w'.cell? ⟨q1, 3, none⟩ = some (.int .i64 rvr) ∧ w'.cell? ⟨q1, 4, none⟩ = some (.slice x1 rl1.length y1) ∧ w'.cell? ⟨q1, 5, none⟩ = some (.slice x2 rl2.length y2) ∧ w'.cell? ⟨q1, 6, none⟩ = some (.slice x3 rl3.length y3) ∧ w'.cell? ⟨q1, 7, none⟩ = some (.slice x4 rl4.length y4) ∧ w'.cell? ⟨q1, 8, none⟩ = some (.int .i64 rmn) ∧ w'.cell? ⟨q2, 0, none⟩ = some (.int .i64 rid) ∧ w'.cell? ⟨q2, 1, none⟩ = some (.int .i64 rld) ∧ w'.cell? ⟨q2, 2, none⟩ = some (.int .i64 rep) ∧ w'.cell? ⟨q2, 3, none⟩ = some (.int .i64 rvr) ∧ w'.cell? ⟨q2, 4, none⟩ = some (.slice t1 rl1.length u1) ∧ w'.cell? ⟨q2, 5, none⟩ = some (.slice t2 rl2.length u2) ∧ w'.cell? ⟨q2, 6, none⟩ = some (.slice t3 rl3.length u3) ∧ w'.cell? ⟨q2, 7, none⟩ = some (.slice t4 rl4.length u4) ∧ w'.cell? ⟨q2, 8, none⟩ = some (.int .i64 rmn)) (go_keep) (fail)
    all_goals
      obtain ⟨o1, o2⟩ := nine_off W5 (w.heap.size + 2) (.int .i64 rid) (.int .i64 rld) (.int .i64 rep) (.int .i64 rvr) (.slice x1 rl1.length y1) (.slice x2 rl2.length y2) (.slice x3 rl3.length y3) (.slice x4 rl4.length y4) (.int .i64 rmn)
      have HZ6 := hid (nine_q HT5.out.z rfl (.int .i64 rid) (.int .i64 rld) (.int .i64 rep) (.int .i64 rvr) (.slice x1 rl1.length y1) (.slice x2 rl2.length y2) (.slice x3 rl3.length y3) (.slice x4 rl4.length y4) (.int .i64 rmn))
      have HY6 := hid ((o1 _ e5').trans HT5.out.y)
      have HB6 := hid (nine_below HT5.out.b (Nat.le_add_right _ 2) (.int .i64 rid) (.int .i64 rld) (.int .i64 rep) (.int .i64 rvr) (.slice x1 rl1.length y1) (.slice x2 rl2.length y2) (.slice x3 rl3.length y3) (.slice x4 rl4.length y4) (.int .i64 rmn))
      have HPA := hid (HA5.out.off (HAi.out.mono fun b hb => by omega) o1 o2)
      have HPB := hid (HB.out.off (HBi.out.mono fun b hb => by omega) o1 o2)
      clear o1 o2 g0 g1 g2 g3 g4 g5 g6 g7 g8 h0 h1 h2 h3 h4 h5 h6 h7 h8 z0 z1 z2 z3 z4 z5 z6 z7 z8 yy0 yy1 yy2 yy3 yy4 yy5 yy6 yy7 yy8 fz fy
      generalize (((((((((W5.setCell ⟨w.heap.size + 2, 0, none⟩ (.int .i64 rid)).setCell ⟨w.heap.size + 2, 1, none⟩ (.int .i64 rld)).setCell ⟨w.heap.size + 2, 2, none⟩ (.int .i64 rep)).setCell ⟨w.heap.size + 2, 3, none⟩ (.int .i64 rvr)).setCell ⟨w.heap.size + 2, 4, none⟩ (.slice x1 rl1.length y1)).setCell ⟨w.heap.size + 2, 5, none⟩ (.slice x2 rl2.length y2)).setCell ⟨w.heap.size + 2, 6, none⟩ (.slice x3 rl3.length y3)).setCell ⟨w.heap.size + 2, 7, none⟩ (.slice x4 rl4.length y4)).setCell ⟨w.heap.size + 2, 8, none⟩ (.int .i64 rmn)) = W6 at *
      obtain ⟨o1, o2⟩ := nine_off W6 (w.heap.size + 3) (.int .i64 rid) (.int .i64 rld) (.int .i64 rep) (.int .i64 rvr) (.slice t1 rl1.length u1) (.slice t2 rl2.length u2) (.slice t3 rl3.length u3) (.slice t4 rl4.length u4) (.int .i64 rmn)
      have HZ7 := hid ((o1 _ e5).trans HZ6.out)
      have HY7 := hid (nine_q HY6.out rfl (.int .i64 rid) (.int .i64 rld) (.int .i64 rep) (.int .i64 rvr) (.slice t1 rl1.length u1) (.slice t2 rl2.length u2) (.slice t3 rl3.length u3) (.slice t4 rl4.length u4) (.int .i64 rmn))
      have HB7 := hid (nine_below HB6.out (Nat.le_add_right _ 3) (.int .i64 rid) (.int .i64 rld) (.int .i64 rep) (.int .i64 rvr) (.slice t1 rl1.length u1) (.slice t2 rl2.length u2) (.slice t3 rl3.length u3) (.slice t4 rl4.length u4) (.int .i64 rmn))
      have HPA7 := hid (HPA.out.off (HAi.out.mono fun b hb => by omega) o1 o2)
      have HPB7 := hid (HPB.out.off (HBi.out.mono fun b hb => by omega) o1 o2)
      clear o1 o2
      generalize (((((((((W6.setCell ⟨w.heap.size + 3, 0, none⟩ (.int .i64 rid)).setCell ⟨w.heap.size + 3, 1, none⟩ (.int .i64 rld)).setCell ⟨w.heap.size + 3, 2, none⟩ (.int .i64 rep)).setCell ⟨w.heap.size + 3, 3, none⟩ (.int .i64 rvr)).setCell ⟨w.heap.size + 3, 4, none⟩ (.slice t1 rl1.length u1)).setCell ⟨w.heap.size + 3, 5, none⟩ (.slice t2 rl2.length u2)).setCell ⟨w.heap.size + 3, 6, none⟩ (.slice t3 rl3.length u3)).setCell ⟨w.heap.size + 3, 7, none⟩ (.slice t4 rl4.length u4)).setCell ⟨w.heap.size + 3, 8, none⟩ (.int .i64 rmn)) = W7 at *
      go_wp2_with fail
      have r0 := cell_blk HZ7.out 0 _ rfl
      have r1 := cell_blk HZ7.out 1 _ rfl
      have r2 := cell_blk HZ7.out 2 _ rfl
      have r3 := cell_blk HZ7.out 3 _ rfl
      have r4 := cell_blk HZ7.out 4 _ rfl
      have r5 := cell_blk HZ7.out 5 _ rfl
      have r6 := cell_blk HZ7.out 6 _ rfl
      have r7 := cell_blk HZ7.out 7 _ rfl
      have r8 := cell_blk HZ7.out 8 _ rfl
      have s0 := cell_blk HY7.out 0 _ rfl
      have s1 := cell_blk HY7.out 1 _ rfl
      have s2 := cell_blk HY7.out 2 _ rfl
      have s3 := cell_blk HY7.out 3 _ rfl
      have s4 := cell_blk HY7.out 4 _ rfl
      have s5 := cell_blk HY7.out 5 _ rfl
      have s6 := cell_blk HY7.out 6 _ rfl
      have s7 := cell_blk HY7.out 7 _ rfl
      have s8 := cell_blk HY7.out 8 _ rfl
      exact bodyPost_ret (v := .tuple #[.agg #[.int .i64 rid, .int .i64 rld, .int .i64 rep, .int .i64 rvr, .slice x1 rl1.length y1, .slice x2 rl2.length y2, .slice x3 rl3.length y3, .slice x4 rl4.length y4, .int .i64 rmn], .int .i64 re, .agg #[.int .i64 rid, .int .i64 rld, .int .i64 rep, .int .i64 rvr, .slice t1 rl1.length u1, .slice t2 rl2.length u2, .slice t3 rl3.length u3, .slice t4 rl4.length u4, .int .i64 rmn], .int .i64 re]) (by simp [results, Try.results10, go_sem, r0, r1, r2, r3, r4, r5, r6, r7, r8, s0, s1, s2, s3, s4, s5, s6, s7, s8]) rfl ⟨_, _, rfl, HPA7.out.under (Below.refl _ _).drew, HAi.out.mono fun b hb => by omega, HPB7.out.under (Below.refl _ _).drew, HBi.out.mono fun b hb => by omega, HB7.out.drew⟩
  · have HDK : Hid ((⟨rid, rld, rep, rvr, rl1, rl2, rl3, rl4, rmn⟩, re) = finishP ⟨id, ld, ep, vr, isr, reps, add, rem, mn⟩ ou) := by show _ = _; rw [HD.out]; simp
    have GA : Hid (∀ W, Below w.heap.size w W → Calls Try.prog 24 #[.agg #[.int .i64 id, .int .i64 ld, .int .i64 ep, .int .i64 vr, .slice a1 isr.length c1, .slice a2 reps.length c2, .slice a3 add.length c3, .slice a4 rem.length c4, .int .i64 mn], .slice ua ou.length uc] W fun e w' => Res (fun b => W.heap.size ≤ b) W (⟨rid, rld, rep, rvr, rl1, rl2, rl3, rl4, rmn⟩, re) e w') := fun W hb => by rw [HDK.out]; exact finish_any (HP.out W hb) (QU.out.under hb)
    have GB : Hid (∀ W, Below w.heap.size w W → Calls Try.prog 34 #[.agg #[.int .i64 id, .int .i64 ld, .int .i64 ep, .int .i64 vr, .slice a1 isr.length c1, .slice a2 reps.length c2, .slice a3 add.length c3, .slice a4 rem.length c4, .int .i64 mn], .slice ua ou.length uc] W fun e w' => Res (fun b => W.heap.size ≤ b) W (⟨rid, rld, rep, rvr, rl1, rl2, rl3, rl4, rmn⟩, re) e w') := fun W hb => by rw [HDK.out]; exact rfinish_any (HP.out W hb) (QU.out.under hb)
    clear HD HDK
    go_wp2_with fail
    refine (G16.out _).mono ?_
    rintro e W1 ⟨rfl, rfl⟩
    go_wp2_with fail
    refine (GA.out _ HT0.out.b).mono ?_
    rintro e W2 ⟨v', rfl, h1, h2, hb⟩
    have HSZ : Hid (w.heap.size + 3 < W0.heap.size) := lt_blk HT0.out.y
    have HIA := hid (h2.mono (Y := fun b => w.heap.size + 4 ≤ b) fun b hx => by have := HSZ.out; omega)
    obtain ⟨x1, y1, x2, y2, x3, y3, x4, y4, rfl, _⟩ := h1.open
    have H1 : Hid (PartM W2 (.agg #[.int .i64 rid, .int .i64 rld, .int .i64 rep, .int .i64 rvr, .slice x1 rl1.length y1, .slice x2 rl2.length y2, .slice x3 rl3.length y3, .slice x4 rl4.length y4, .int .i64 rmn]) ⟨rid, rld, rep, rvr, rl1, rl2, rl3, rl4, rmn⟩) := h1
    have HAi : Hid (InP (fun b => w.heap.size + 4 ≤ b) (.agg #[.int .i64 rid, .int .i64 rld, .int .i64 rep, .int .i64 rvr, .slice x1 rl1.length y1, .slice x2 rl2.length y2, .slice x3 rl3.length y3, .slice x4 rl4.length y4, .int .i64 rmn]) ⟨rid, rld, rep, rvr, rl1, rl2, rl3, rl4, rmn⟩) := HIA.out
    have HTb := hid (HT0.out.next hb)
    have hbx := hb
    clear h1 h2 HIA k0 k1 k2 k3 k4 k5 k6 k7 k8 m0 m1 m2 m3 m4 m5
    go_upto_region 24 with fail
    have hA : Below W2.heap.size W2 (W2.alloc (.cells #[.int .i64 rid, .int .i64 rld, .int .i64 rep, .int .i64 rvr, .slice x1 rl1.length y1, .slice x2 rl2.length y2, .slice x3 rl3.length y3, .slice x4 rl4.length y4, .int .i64 rmn] 24)) := (Below.refl _ _).alloc (Nat.le_refl _) _
    have HT3 := hid (HTb.out.next hA)
    have HA := hid (H1.out.under hA)
    have HAq : Hid ((W2.alloc (.cells #[.int .i64 rid, .int .i64 rld, .int .i64 rep, .int .i64 rvr, .slice x1 rl1.length y1, .slice x2 rl2.length y2, .slice x3 rl3.length y3, .slice x4 rl4.length y4, .int .i64 rmn] 24)).heap[W2.heap.size]? = some (.cells #[.int .i64 rid, .int .i64 rld, .int .i64 rep, .int .i64 rvr, .slice x1 rl1.length y1, .slice x2 rl2.length y2, .slice x3 rl3.length y3, .slice x4 rl4.length y4, .int .i64 rmn] 24)) := heap_alloc_new _ _
    have HAn : Hid (w.heap.size + 4 ≤ W2.heap.size) := by show _ ≤ _; have := lt_blk HTb.out.y; omega
    clear hA hb hbx HTb H1 HSZ
    generalize W2.alloc (.cells #[.int .i64 rid, .int .i64 rld, .int .i64 rep, .int .i64 rvr, .slice x1 rl1.length y1, .slice x2 rl2.length y2, .slice x3 rl3.length y3, .slice x4 rl4.length y4, .int .i64 rmn] 24) = W3 at *
    generalize W2.heap.size = q1 at *
    have k0 := cell_blk HT3.out.x 0 _ rfl
    have k1 := cell_blk HT3.out.x 1 _ rfl
    have k2 := cell_blk HT3.out.x 2 _ rfl
    have k3 := cell_blk HT3.out.x 3 _ rfl
    have k4 := cell_blk HT3.out.x 4 _ rfl
    have k5 := cell_blk HT3.out.x 5 _ rfl
    have k6 := cell_blk HT3.out.x 6 _ rfl
    have k7 := cell_blk HT3.out.x 7 _ rfl
    have k8 := cell_blk HT3.out.x 8 _ rfl
    have m0 := cell_blk HT3.out.o 0 _ rfl
    have m1 := cell_blk HT3.out.o 1 _ rfl
    have m2 := cell_blk HT3.out.o 2 _ rfl
    have m3 := cell_blk HT3.out.o 3 _ rfl
    have m4 := cell_blk HT3.out.o 4 _ rfl
    have m5 := cell_blk HT3.out.o 5 _ rfl
    go_wp2_with fail
    refine (GB.out _ HT3.out.b).mono ?_
    rintro e W4 ⟨v', rfl, h1, h2, hb⟩
    have HSZ : Hid (w.heap.size + 3 < W3.heap.size) := lt_blk HT3.out.y
    have HIA := hid (h2.mono (Y := fun b => w.heap.size + 4 ≤ b) fun b hx => by have := HSZ.out; omega)
    obtain ⟨t1, u1, t2, u2, t3, u3, t4, u4, rfl, _⟩ := h1.open
    have H1 : Hid (PartM W4 (.agg #[.int .i64 rid, .int .i64 rld, .int .i64 rep, .int .i64 rvr, .slice t1 rl1.length u1, .slice t2 rl2.length u2, .slice t3 rl3.length u3, .slice t4 rl4.length u4, .int .i64 rmn]) ⟨rid, rld, rep, rvr, rl1, rl2, rl3, rl4, rmn⟩) := h1
    have HBi : Hid (InP (fun b => w.heap.size + 4 ≤ b) (.agg #[.int .i64 rid, .int .i64 rld, .int .i64 rep, .int .i64 rvr, .slice t1 rl1.length u1, .slice t2 rl2.length u2, .slice t3 rl3.length u3, .slice t4 rl4.length u4, .int .i64 rmn]) ⟨rid, rld, rep, rvr, rl1, rl2, rl3, rl4, rmn⟩) := HIA.out
    have HTb := hid (HT3.out.next hb)
    have hbx := hb
    clear h1 h2 HIA k0 k1 k2 k3 k4 k5 k6 k7 k8 m0 m1 m2 m3 m4 m5
    go_upto_region 25 with fail
    have hA : Below W4.heap.size W4 (W4.alloc (.cells #[.int .i64 rid, .int .i64 rld, .int .i64 rep, .int .i64 rvr, .slice t1 rl1.length u1, .slice t2 rl2.length u2, .slice t3 rl3.length u3, .slice t4 rl4.length u4, .int .i64 rmn] 24)) := (Below.refl _ _).alloc (Nat.le_refl _) _
    have HT5 := hid (HTb.out.next hA)
    have HB := hid (H1.out.under hA)
    have HBq : Hid ((W4.alloc (.cells #[.int .i64 rid, .int .i64 rld, .int .i64 rep, .int .i64 rvr, .slice t1 rl1.length u1, .slice t2 rl2.length u2, .slice t3 rl3.length u3, .slice t4 rl4.length u4, .int .i64 rmn] 24)).heap[W4.heap.size]? = some (.cells #[.int .i64 rid, .int .i64 rld, .int .i64 rep, .int .i64 rvr, .slice t1 rl1.length u1, .slice t2 rl2.length u2, .slice t3 rl3.length u3, .slice t4 rl4.length u4, .int .i64 rmn] 24)) := heap_alloc_new _ _
    have HBn : Hid (w.heap.size + 4 ≤ W4.heap.size) := by show _ ≤ _; have := lt_blk HTb.out.y; omega
    have HA5 := hid ((HA.out.under hbx).under hA)
    have HAq5 := hid (blk_under (blk_under HAq.out hbx) hA)
    have HNE : Hid (q1 < W4.heap.size) := lt_blk (blk_under HAq.out hbx)
    clear hA hb hbx HTb H1 HSZ
    generalize W4.alloc (.cells #[.int .i64 rid, .int .i64 rld, .int .i64 rep, .int .i64 rvr, .slice t1 rl1.length u1, .slice t2 rl2.length u2, .slice t3 rl3.length u3, .slice t4 rl4.length u4, .int .i64 rmn] 24) = W5 at *
    generalize W4.heap.size = q2 at *
    have k0 := cell_blk HT5.out.x 0 _ rfl
    have k1 := cell_blk HT5.out.x 1 _ rfl
    have k2 := cell_blk HT5.out.x 2 _ rfl
    have k3 := cell_blk HT5.out.x 3 _ rfl
    have k4 := cell_blk HT5.out.x 4 _ rfl
    have k5 := cell_blk HT5.out.x 5 _ rfl
    have k6 := cell_blk HT5.out.x 6 _ rfl
    have k7 := cell_blk HT5.out.x 7 _ rfl
    have k8 := cell_blk HT5.out.x 8 _ rfl
    have m0 := cell_blk HT5.out.o 0 _ rfl
    have m1 := cell_blk HT5.out.o 1 _ rfl
    have m2 := cell_blk HT5.out.o 2 _ rfl
    have m3 := cell_blk HT5.out.o 3 _ rfl
    have m4 := cell_blk HT5.out.o 4 _ rfl
    have m5 := cell_blk HT5.out.o 5 _ rfl
    clear k0 k1 k2 k3 k4 k5 k6 k7 k8 m0 m1 m2 m3 m4 m5 HA HAq
    have hq1 := HAn.out
    have hq2 := HNE.out
    have hq3 := HBn.out
    have e1 : ¬ q1 = w.heap.size + 2 := by omega
    have e1' : ¬ w.heap.size + 2 = q1 := by omega
    have e2 : ¬ q1 = w.heap.size + 3 := by omega
    have e2' : ¬ w.heap.size + 3 = q1 := by omega
    have e3 : ¬ q2 = w.heap.size + 2 := by omega
    have e3' : ¬ w.heap.size + 2 = q2 := by omega
    have e4 : ¬ q2 = w.heap.size + 3 := by omega
    have e4' : ¬ w.heap.size + 3 = q2 := by omega
    have e5 : ¬ w.heap.size + 2 = w.heap.size + 3 := by omega
    have e5' : ¬ w.heap.size + 3 = w.heap.size + 2 := by omega
    clear hq1 hq2 hq3
    have g0 := cell_blk HAq5.out 0 _ rfl
    have g1 := cell_blk HAq5.out 1 _ rfl
    have g2 := cell_blk HAq5.out 2 _ rfl
    have g3 := cell_blk HAq5.out 3 _ rfl
    have g4 := cell_blk HAq5.out 4 _ rfl
    have g5 := cell_blk HAq5.out 5 _ rfl
    have g6 := cell_blk HAq5.out 6 _ rfl
    have g7 := cell_blk HAq5.out 7 _ rfl
    have g8 := cell_blk HAq5.out 8 _ rfl
    have h0 := cell_blk HBq.out 0 _ rfl
    have h1 := cell_blk HBq.out 1 _ rfl
    have h2 := cell_blk HBq.out 2 _ rfl
    have h3 := cell_blk HBq.out 3 _ rfl
    have h4 := cell_blk HBq.out 4 _ rfl
    have h5 := cell_blk HBq.out 5 _ rfl
    have h6 := cell_blk HBq.out 6 _ rfl
    have h7 := cell_blk HBq.out 7 _ rfl
    have h8 := cell_blk HBq.out 8 _ rfl
    have z0 := cell_blk HT5.out.z 0 _ rfl
    have z1 := cell_blk HT5.out.z 1 _ rfl
    have z2 := cell_blk HT5.out.z 2 _ rfl
    have z3 := cell_blk HT5.out.z 3 _ rfl
    have z4 := cell_blk HT5.out.z 4 _ rfl
    have z5 := cell_blk HT5.out.z 5 _ rfl
    have z6 := cell_blk HT5.out.z 6 _ rfl
    have z7 := cell_blk HT5.out.z 7 _ rfl
    have z8 := cell_blk HT5.out.z 8 _ rfl
    have yy0 := cell_blk HT5.out.y 0 _ rfl
    have yy1 := cell_blk HT5.out.y 1 _ rfl
    have yy2 := cell_blk HT5.out.y 2 _ rfl
    have yy3 := cell_blk HT5.out.y 3 _ rfl
    have yy4 := cell_blk HT5.out.y 4 _ rfl
    have yy5 := cell_blk HT5.out.y 5 _ rfl
    have yy6 := cell_blk HT5.out.y 6 _ rfl
    have yy7 := cell_blk HT5.out.y 7 _ rfl
    have yy8 := cell_blk HT5.out.y 8 _ rfl
    have fz := frz_blk HT5.out.z
    have fy := frz_blk HT5.out.y
    go_region_held3 (fun w' => w'.cell? ⟨q1, 0, none⟩ = some (.int .i64 rid) ∧ w'.cell? ⟨q1, 1, none⟩ = some (.int .i64 rld) ∧ w'.cell? ⟨q1, 2, none⟩ = some (.int .i64 rep) ∧ w'.cell? ⟨q1, 3, none⟩ = some (.int .i64 rvr) ∧ w'.cell? ⟨q1, 4, none⟩ = some (.slice x1 rl1.length y1) ∧ w'.cell? ⟨q1, 5, none⟩ = some (.slice x2 rl2.length y2) ∧ w'.cell? ⟨q1, 6, none⟩ = some (.slice x3 rl3.length y3) ∧ w'.cell? ⟨q1, 7, none⟩ = some (.slice x4 rl4.length y4) ∧ w'.cell? ⟨q1, 8, none⟩ = some (.int .i64 rmn) ∧ w'.cell? ⟨q2, 0, none⟩ = some (.int .i64 rid) ∧ w'.cell? ⟨q2, 1, none⟩ = some (.int .i64 rld) ∧ w'.cell? ⟨q2, 2, none⟩ = some (.int .i64 rep) ∧ w'.cell? ⟨q2, 3, none⟩ = some (.int .i64 rvr) ∧ w'.cell? ⟨q2, 4, none⟩ = some (.slice t1 rl1.length u1) ∧ w'.cell? ⟨q2, 5, none⟩ = some (.slice t2 rl2.length u2) ∧ w'.cell? ⟨q2, 6, none⟩ = some (.slice t3 rl3.length u3) ∧ w'.cell? ⟨q2, 7, none⟩ = some (.slice t4 rl4.length u4) ∧ w'.cell? ⟨q2, 8, none⟩ = some (.int .i64 rmn)) (go_keep) (fail)
    all_goals
      obtain ⟨o1, o2⟩ := nine_off W5 (w.heap.size + 2) (.int .i64 rid) (.int .i64 rld) (.int .i64 rep) (.int .i64 rvr) (.slice x1 rl1.length y1) (.slice x2 rl2.length y2) (.slice x3 rl3.length y3) (.slice x4 rl4.length y4) (.int .i64 rmn)
      have HZ6 := hid (nine_q HT5.out.z rfl (.int .i64 rid) (.int .i64 rld) (.int .i64 rep) (.int .i64 rvr) (.slice x1 rl1.length y1) (.slice x2 rl2.length y2) (.slice x3 rl3.length y3) (.slice x4 rl4.length y4) (.int .i64 rmn))
      have HY6 := hid ((o1 _ e5').trans HT5.out.y)
      have HB6 := hid (nine_below HT5.out.b (Nat.le_add_right _ 2) (.int .i64 rid) (.int .i64 rld) (.int .i64 rep) (.int .i64 rvr) (.slice x1 rl1.length y1) (.slice x2 rl2.length y2) (.slice x3 rl3.length y3) (.slice x4 rl4.length y4) (.int .i64 rmn))
      have HPA := hid (HA5.out.off (HAi.out.mono fun b hb => by omega) o1 o2)
      have HPB := hid (HB.out.off (HBi.out.mono fun b hb => by omega) o1 o2)
      clear o1 o2 g0 g1 g2 g3 g4 g5 g6 g7 g8 h0 h1 h2 h3 h4 h5 h6 h7 h8 z0 z1 z2 z3 z4 z5 z6 z7 z8 yy0 yy1 yy2 yy3 yy4 yy5 yy6 yy7 yy8 fz fy
      generalize (((((((((W5.setCell ⟨w.heap.size + 2, 0, none⟩ (.int .i64 rid)).setCell ⟨w.heap.size + 2, 1, none⟩ (.int .i64 rld)).setCell ⟨w.heap.size + 2, 2, none⟩ (.int .i64 rep)).setCell ⟨w.heap.size + 2, 3, none⟩ (.int .i64 rvr)).setCell ⟨w.heap.size + 2, 4, none⟩ (.slice x1 rl1.length y1)).setCell ⟨w.heap.size + 2, 5, none⟩ (.slice x2 rl2.length y2)).setCell ⟨w.heap.size + 2, 6, none⟩ (.slice x3 rl3.length y3)).setCell ⟨w.heap.size + 2, 7, none⟩ (.slice x4 rl4.length y4)).setCell ⟨w.heap.size + 2, 8, none⟩ (.int .i64 rmn)) = W6 at *
      obtain ⟨o1, o2⟩ := nine_off W6 (w.heap.size + 3) (.int .i64 rid) (.int .i64 rld) (.int .i64 rep) (.int .i64 rvr) (.slice t1 rl1.length u1) (.slice t2 rl2.length u2) (.slice t3 rl3.length u3) (.slice t4 rl4.length u4) (.int .i64 rmn)
      have HZ7 := hid ((o1 _ e5).trans HZ6.out)
      have HY7 := hid (nine_q HY6.out rfl (.int .i64 rid) (.int .i64 rld) (.int .i64 rep) (.int .i64 rvr) (.slice t1 rl1.length u1) (.slice t2 rl2.length u2) (.slice t3 rl3.length u3) (.slice t4 rl4.length u4) (.int .i64 rmn))
      have HB7 := hid (nine_below HB6.out (Nat.le_add_right _ 3) (.int .i64 rid) (.int .i64 rld) (.int .i64 rep) (.int .i64 rvr) (.slice t1 rl1.length u1) (.slice t2 rl2.length u2) (.slice t3 rl3.length u3) (.slice t4 rl4.length u4) (.int .i64 rmn))
      have HPA7 := hid (HPA.out.off (HAi.out.mono fun b hb => by omega) o1 o2)
      have HPB7 := hid (HPB.out.off (HBi.out.mono fun b hb => by omega) o1 o2)
      clear o1 o2
      generalize (((((((((W6.setCell ⟨w.heap.size + 3, 0, none⟩ (.int .i64 rid)).setCell ⟨w.heap.size + 3, 1, none⟩ (.int .i64 rld)).setCell ⟨w.heap.size + 3, 2, none⟩ (.int .i64 rep)).setCell ⟨w.heap.size + 3, 3, none⟩ (.int .i64 rvr)).setCell ⟨w.heap.size + 3, 4, none⟩ (.slice t1 rl1.length u1)).setCell ⟨w.heap.size + 3, 5, none⟩ (.slice t2 rl2.length u2)).setCell ⟨w.heap.size + 3, 6, none⟩ (.slice t3 rl3.length u3)).setCell ⟨w.heap.size + 3, 7, none⟩ (.slice t4 rl4.length u4)).setCell ⟨w.heap.size + 3, 8, none⟩ (.int .i64 rmn)) = W7 at *
      go_wp2_with fail
      have r0 := cell_blk HZ7.out 0 _ rfl
      have r1 := cell_blk HZ7.out 1 _ rfl
      have r2 := cell_blk HZ7.out 2 _ rfl
      have r3 := cell_blk HZ7.out 3 _ rfl
      have r4 := cell_blk HZ7.out 4 _ rfl
      have r5 := cell_blk HZ7.out 5 _ rfl
      have r6 := cell_blk HZ7.out 6 _ rfl
      have r7 := cell_blk HZ7.out 7 _ rfl
      have r8 := cell_blk HZ7.out 8 _ rfl
      have s0 := cell_blk HY7.out 0 _ rfl
      have s1 := cell_blk HY7.out 1 _ rfl
      have s2 := cell_blk HY7.out 2 _ rfl
      have s3 := cell_blk HY7.out 3 _ rfl
      have s4 := cell_blk HY7.out 4 _ rfl
      have s5 := cell_blk HY7.out 5 _ rfl
      have s6 := cell_blk HY7.out 6 _ rfl
      have s7 := cell_blk HY7.out 7 _ rfl
      have s8 := cell_blk HY7.out 8 _ rfl
      exact bodyPost_ret (v := .tuple #[.agg #[.int .i64 rid, .int .i64 rld, .int .i64 rep, .int .i64 rvr, .slice x1 rl1.length y1, .slice x2 rl2.length y2, .slice x3 rl3.length y3, .slice x4 rl4.length y4, .int .i64 rmn], .int .i64 re, .agg #[.int .i64 rid, .int .i64 rld, .int .i64 rep, .int .i64 rvr, .slice t1 rl1.length u1, .slice t2 rl2.length u2, .slice t3 rl3.length u3, .slice t4 rl4.length u4, .int .i64 rmn], .int .i64 re]) (by simp [results, Try.results10, go_sem, r0, r1, r2, r3, r4, r5, r6, r7, r8, s0, s1, s2, s3, s4, s5, s6, s7, s8]) rfl ⟨_, _, rfl, HPA7.out.under (Below.refl _ _).drew, HAi.out.mono fun b hb => by omega, HPB7.out.under (Below.refl _ _).drew, HBi.out.mono fun b hb => by omega, HB7.out.drew⟩
end Go.Proofs.Ytfahepeemodcbaa
