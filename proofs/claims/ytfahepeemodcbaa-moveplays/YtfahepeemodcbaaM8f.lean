/- mayBeInSync. -/
import Derived.Test.YtfahepeemodcbaaM8a
namespace Go.Proofs.Ytfahepeemodcbaa
open Go.RowKit Go.Maps
set_option linter.unusedSimpArgs false
set_option linter.unusedVariables false
set_option maxRecDepth 100000

theorem sy1 (a b c d : Bool) : (a && b && c && d) = (a && (b && (c && d))) := by simp only [Bool.and_assoc]
set_option maxHeartbeats 3200000 in
theorem sync_any {w : World} {v m u : Value} {p : Pt} {ml up : List Int} (h : PartM w v p) (hm : IL w m ml) (hu : IL w u up) : Calls Try.prog 56 #[v, m, u] w fun e w' => e = .returned (.bool (syncB p ml up)) ∧ Below w.heap.size w w' := by
  obtain ⟨id, ld, ep, vr, isr, reps, add, rem, mn⟩ := p
  obtain ⟨a1, c1, a2, c2, a3, c3, a4, c4, rfl, q1, q2, q3, q4, i0, i1, i2, i3, i4⟩ := h.open
  simp only at q1 q2 q3 q4 i0 i1 i2 i3 i4 ⊢
  have Q1 := hid q1
  have Q2 := hid q2
  have Q3 := hid q3
  have Q4 := hid q4
  clear h q1 q2 q3 q4
  have HX : Hid ((w.alloc (.cells #[.int .i64 id, .int .i64 ld, .int .i64 ep, .int .i64 vr, .slice a1 isr.length c1, .slice a2 reps.length c2, .slice a3 add.length c3, .slice a4 rem.length c4, .int .i64 mn] 24)).heap[w.heap.size]? = some (.cells #[.int .i64 id, .int .i64 ld, .int .i64 ep, .int .i64 vr, .slice a1 isr.length c1, .slice a2 reps.length c2, .slice a3 add.length c3, .slice a4 rem.length c4, .int .i64 mn] 24)) := heap_alloc_new w _
  have HB : Hid (Below w.heap.size w (w.alloc (.cells #[.int .i64 id, .int .i64 ld, .int .i64 ep, .int .i64 vr, .slice a1 isr.length c1, .slice a2 reps.length c2, .slice a3 add.length c3, .slice a4 rem.length c4, .int .i64 mn] 24))) := (Below.refl _ _).alloc (Nat.le_refl _) _
  have hsz : (w.alloc (.cells #[.int .i64 id, .int .i64 ld, .int .i64 ep, .int .i64 vr, .slice a1 isr.length c1, .slice a2 reps.length c2, .slice a3 add.length c3, .slice a4 rem.length c4, .int .i64 mn] 24)).heap.size = w.heap.size + 1 := by simp
  obtain ⟨ma, mc, rfl, _⟩ := hm.shape
  obtain ⟨ua, uc, rfl, _⟩ := hu.shape
  have QM := hid hm
  have QU := hid hu
  have HN : Hid (syncB ⟨id, ld, ep, vr, isr, reps, add, rem, mn⟩ ml up = (idsB ml && (hasB ml ld && (ml.all (hasB reps) && (outL ml isr).all (hasB up))))) := sy1 _ _ _ _
  have G1 : Hid (∀ W, Below w.heap.size w W → Calls Try.prog 68 #[.slice ma ml.length mc] W fun e w' => e = .returned (.bool (idsB ml)) ∧ Below W.heap.size W w') := fun W hb => areRight_any (QM.out.under hb)
  have G2 : Hid (∀ W, Below w.heap.size w W → Calls Try.prog 39 #[.slice ma ml.length mc, .int .i64 ld] W fun e w' => e = .returned (.bool (hasB ml ld)) ∧ W = w') := fun W hb => has_any (QM.out.under hb) ld i1
  have G3 : Hid (∀ W, Below w.heap.size w W → Calls Try.prog 51 #[.slice ma ml.length mc, .func (.func 39) #[] #[], .slice a2 reps.length c2] W fun e w' => e = .returned (.bool (ml.all (hasB reps))) ∧ W = w') := fun W hb => areAll39_any (QM.out.under hb) (Q2.out.under hb)
  have G4 : Hid (∀ W, Below w.heap.size w W → Calls Try.prog 49 #[.slice ma ml.length mc, .func (.func 50) #[] #[], .slice a1 isr.length c1] W fun e w' => ∃ va vc, e = .returned (.slice va (outL ml isr).length vc) ∧ IL w' (.slice va (outL ml isr).length vc) (outL ml isr) ∧ Below W.heap.size W w') := fun W hb => (those50_any (QM.out.under hb) (Q1.out.under hb)).mono fun e w' ⟨v', e1, e2, e3, e4⟩ => by obtain ⟨va, vc, rfl, _⟩ := e2.shape; exact ⟨va, vc, e1, e2, e4⟩
  have G5 : Hid (∀ W va vc, Below w.heap.size w W → IL W (.slice va (outL ml isr).length vc) (outL ml isr) → Calls Try.prog 51 #[.slice va (outL ml isr).length vc, .func (.func 39) #[] #[], .slice ua up.length uc] W fun e w' => e = .returned (.bool ((outL ml isr).all (hasB up))) ∧ W = w') := fun W va vc hb h1 => areAll39_any h1 (QU.out.under hb)
  rw [HN.out]
  generalize idsB ml = B1 at *
  generalize hasB ml ld = B2 at *
  generalize ml.all (hasB reps) = B3 at *
  generalize (outL ml isr).all (hasB up) = B4 at *
  generalize outL ml isr = T at *
  clear HN hm hu i0 i1 i2 i3 i4 Q1 Q2 Q3 Q4 QM QU
  go_enter Try.func56, Try.ntmps56
  go_wp2_with fail
  generalize w.alloc (.cells #[.int .i64 id, .int .i64 ld, .int .i64 ep, .int .i64 vr, .slice a1 isr.length c1, .slice a2 reps.length c2, .slice a3 add.length c3, .slice a4 rem.length c4, .int .i64 mn] 24) = W0 at *
  refine (G1.out _ HB.out).mono ?_
  rintro e W1 ⟨rfl, hb⟩
  have HB1 := hid (HB.out.trans (hb.mono HB.out.size))
  have HX1 := hid ((hb.block w.heap.size (by omega)).trans HX.out)
  clear hb
  have k1 := cell_blk HX1.out 1 _ rfl
  have k4 := cell_blk HX1.out 4 _ rfl
  have k5 := cell_blk HX1.out 5 _ rfl
  cases B1
  · go_wp2_with fail
    go_ret
    exact ⟨by first | rfl | simp, HB1.out⟩
  go_wp2_with fail
  refine (G2.out _ HB1.out).mono ?_
  rintro e W2 ⟨rfl, rfl⟩
  cases B2
  · go_wp2_with fail
    go_ret
    exact ⟨by first | rfl | simp, HB1.out⟩
  go_wp2_with fail
  refine (G3.out _ HB1.out).mono ?_
  rintro e W2 ⟨rfl, rfl⟩
  cases B3
  · go_wp2_with fail
    go_ret
    exact ⟨by first | rfl | simp, HB1.out⟩
  go_wp2_with fail
  refine (G4.out _ HB1.out).mono ?_
  rintro e W2 ⟨va, vc, rfl, h1, hb⟩
  have HB2 := hid (HB1.out.trans (hb.mono HB1.out.size))
  have H1 := hid h1
  clear h1 hb
  go_wp2_with fail
  refine (G5.out _ _ _ HB2.out H1.out).mono ?_
  rintro e W3 ⟨rfl, rfl⟩
  go_wp2_with fail
  go_ret
  exact ⟨ret_bool (by simp), HB2.out⟩
end Go.Proofs.Ytfahepeemodcbaa
