/- Who leads when a leader gives way. -/
import Derived.Test.YtcffomhcmilcpaaGreatM6c
namespace Go.Proofs.YtcffomhcmilcpaaGreat
open Go.RowKit Go.Maps
set_option linter.unusedSimpArgs false
set_option linter.unusedVariables false
set_option maxRecDepth 100000

theorem il_one {w : World} (x : Int) (hx : I64 x) (W : World) (hb : Below w.heap.size w W) (g : Nat) (hg : W.heap[g]? = some (.cells #[.int .i64 x] 3)) : IL W (.slice (some ⟨g, 0, none⟩) 1 1) [x] := by
  refine ⟨⟨some ⟨g, 0, none⟩, 1, rfl, by simp, by unfold maxLen; omega, (fun h => by cases h), fun _ => ⟨g, 0, rfl, ?_, fun i hi => ?_⟩⟩, fun y hy => by simp at hy; subst hy; exact hx, by simp⟩
  · rcases Nat.lt_or_ge g W.heap.size with h1 | h1
    · exact h1
    · rw [Array.getElem?_eq_none h1] at hg; cases hg
  · have : i = 0 := by simpa using hi
    subst this
    exact cell_blk hg 0 _ rfl
theorem head_nil : headL [] = 0 := rfl
theorem head_cons (x : Int) (r : List Int) : headL (x :: r) = x := rfl
set_option maxHeartbeats 1600000 in
theorem heir_any {w : World} {v u : Value} {p : Pt} {up : List Int} (h : PartM w v p) (hu : IL w u up) : Calls Tryz.prog 182 #[v, u] w fun e w' => e = .returned (.int .i64 (heirP p up)) ∧ I64 (heirP p up) ∧ Below w.heap.size w w' := by
  obtain ⟨id, ld, ep, vr, isr, reps, add, rem, mn⟩ := p
  obtain ⟨a1, c1, a2, c2, a3, c3, a4, c4, rfl, q1, q2, q3, q4, i0, i1, i2, i3, i4⟩ := h.open
  simp only at q1 q2 q3 q4 i0 i1 i2 i3 i4 ⊢
  have Q1 := hid q1
  have Q2 := hid q2
  have Q3 := hid q3
  have Q4 := hid q4
  clear h q1 q2 q3 q4
  have HX : Hid ((w.alloc (.cells #[.int .i64 id, .int .i64 ld, .int .i64 ep, .int .i64 vr, .slice a1 isr.length c1, .slice a2 reps.length c2, .slice a3 add.length c3, .slice a4 rem.length c4, .int .i64 mn] 54)).heap[w.heap.size]? = some (.cells #[.int .i64 id, .int .i64 ld, .int .i64 ep, .int .i64 vr, .slice a1 isr.length c1, .slice a2 reps.length c2, .slice a3 add.length c3, .slice a4 rem.length c4, .int .i64 mn] 54)) := heap_alloc_new w _
  have HB : Hid (Below w.heap.size w (w.alloc (.cells #[.int .i64 id, .int .i64 ld, .int .i64 ep, .int .i64 vr, .slice a1 isr.length c1, .slice a2 reps.length c2, .slice a3 add.length c3, .slice a4 rem.length c4, .int .i64 mn] 54))) := (Below.refl _ _).alloc (Nat.le_refl _) _
  have hsz : (w.alloc (.cells #[.int .i64 id, .int .i64 ld, .int .i64 ep, .int .i64 vr, .slice a1 isr.length c1, .slice a2 reps.length c2, .slice a3 add.length c3, .slice a4 rem.length c4, .int .i64 mn] 54)).heap.size = w.heap.size + 1 := by simp
  obtain ⟨ua, uc, rfl, _⟩ := hu.shape
  have QU := hid hu
  have HN : Hid (heirP ⟨id, ld, ep, vr, isr, reps, add, rem, mn⟩ up = headL (outL (inL (inL reps isr) up) [ld])) := rfl
  rw [HN.out]
  have G1 : Hid (∀ W, Below w.heap.size w W → Calls Tryz.prog 181 #[.slice a2 reps.length c2, .func (.func 138) #[] #[], .slice a1 isr.length c1] W fun e w' => ∃ v', e = .returned v' ∧ IL w' v' (inL reps isr) ∧ Below W.heap.size W w') := fun W hb => (those39_any (Q2.out.under hb) (Q1.out.under hb)).mono fun e w' ⟨v', e1, e2, e3, e4⟩ => ⟨v', e1, e2, e4⟩
  have G2 : Hid (∀ W v1, Below w.heap.size w W → IL W v1 (inL reps isr) → Calls Tryz.prog 181 #[v1, .func (.func 138) #[] #[], .slice ua up.length uc] W fun e w' => ∃ v', e = .returned v' ∧ IL w' v' (inL (inL reps isr) up) ∧ Below W.heap.size W w') := fun W v1 hb h1 => (those39_any h1 (QU.out.under hb)).mono fun e w' ⟨v', e1, e2, e3, e4⟩ => ⟨v', e1, e2, e4⟩
  have G3 : Hid (∀ W v1 v2, IL W v1 (inL (inL reps isr) up) → IL W v2 [ld] → Calls Tryz.prog 181 #[v1, .func (.func 158) #[] #[], v2] W fun e w' => ∃ v', e = .returned v' ∧ IL w' v' (outL (inL (inL reps isr) up) [ld]) ∧ Below W.heap.size W w') := fun W v1 v2 h1 h2 => (those50_any h1 h2).mono fun e w' ⟨v', e1, e2, e3, e4⟩ => ⟨v', e1, e2, e4⟩
  generalize inL reps isr = L1 at *
  generalize inL L1 up = L2 at *
  generalize outL L2 [ld] = L3 at *
  clear HN hu i0 i2 i3 i4 Q1 Q2 Q3 Q4
  go_enter Tryz.func182, Tryz.ntmps182
  go_wp2_with fail
  generalize w.alloc (.cells #[.int .i64 id, .int .i64 ld, .int .i64 ep, .int .i64 vr, .slice a1 isr.length c1, .slice a2 reps.length c2, .slice a3 add.length c3, .slice a4 rem.length c4, .int .i64 mn] 54) = W0 at *
  refine (G1.out W0 HB.out).mono ?_
  rintro e W1 ⟨v1, rfl, hv1, hb⟩
  obtain ⟨x1, y1, rfl, _⟩ := hv1.shape
  have HB1 := hid (HB.out.trans (hb.mono HB.out.size))
  have HX1 := hid ((hb.block w.heap.size (by omega)).trans HX.out)
  have hs1 : w.heap.size + 1 ≤ W1.heap.size := by have := hb.size; omega
  have HV1 := hid hv1
  clear hv1 hb
  go_wp2_with fail
  refine (G2.out W1 _ HB1.out HV1.out).mono ?_
  rintro e W2 ⟨v2, rfl, hv2, hb⟩
  obtain ⟨x2, y2, rfl, _⟩ := hv2.shape
  have HB2 := hid (HB1.out.trans (hb.mono HB1.out.size))
  have k1 := cell_blk ((hb.block w.heap.size (by omega)).trans HX1.out) 1 _ rfl
  have HV2 := hid hv2
  clear hv2 hb
  go_wp2_with fail
  have HBA : Hid (Below W2.heap.size W2 (W2.alloc (.cells #[.int .i64 ld] 3))) := (Below.refl _ _).alloc (Nat.le_refl _) _
  refine (G3.out _ _ _ (HV2.out.under HBA.out) (il_one ld i1 _ HBA.out _ (heap_alloc_new _ _))).mono ?_
  rintro e W3 ⟨v3, rfl, hv3, hb⟩
  have HB3 := hid (HB2.out.trans ((HBA.out.trans (hb.mono HBA.out.size)).mono HB2.out.size))
  have HOK := hid hv3.ok
  obtain ⟨x3, y3, rfl, _, _, _, h4⟩ := hv3.shape
  clear hv3 hb
  cases L3 with
  | nil =>
    clear h4
    go_wp2_with fail
    go_ret
    exact ⟨rfl, i64z, HB3.out⟩
  | cons z r =>
    obtain ⟨b, off, rfl, _, hc⟩ := h4 (by simp)
    have hc0 := hc 0 (by simp)
    simp only [List.getElem_cons_zero, Nat.add_zero] at hc0
    have hz : I64 z := HOK.out z (by simp)
    have hlen : ¬ (((z :: r).length : Int) = 0) := by rw [List.length_cons]; omega
    have hlen1 : (0 : Int) < ((z :: r).length : Int) := by rw [List.length_cons]; omega
    clear hc h4 HOK
    generalize (z :: r).length = n at *
    go_wp2_with fail
    go_ret
    exact ⟨rfl, hz, HB3.out⟩
end Go.Proofs.YtcffomhcmilcpaaGreat
