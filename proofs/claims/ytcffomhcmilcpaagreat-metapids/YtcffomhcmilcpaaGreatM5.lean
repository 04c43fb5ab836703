/- The targets; whether the lists are right; Right. -/
import Derived.Test.YtcffomhcmilcpaaGreatM4
namespace Go.Proofs.YtcffomhcmilcpaaGreat
open Go.RowKit Go.Maps
set_option linter.unusedSimpArgs false
set_option linter.unusedVariables false
set_option maxRecDepth 100000

set_option maxHeartbeats 1600000 in
theorem targets_any {w : World} {v : Value} {p : Pt} (h : PartM w v p) : Calls Tryz.prog 170 #[v] w fun e w' => ∃ v', e = .returned v' ∧ IL w' v' (outL p.reps p.rem) ∧ Below w.heap.size w w' := by
  obtain ⟨id, ld, ep, vr, isr, reps, add, rem, mn⟩ := p
  obtain ⟨a1, c1, a2, c2, a3, c3, a4, c4, rfl, q1, q2, q3, q4, i0, i1, i2, i3, i4⟩ := h.open
  simp only at q1 q2 q3 q4 i0 i1 i2 i3 i4 ⊢
  have Q1 := hid q1
  have Q2 := hid q2
  have Q3 := hid q3
  have Q4 := hid q4
  clear h q1 q2 q3 q4
  have HX : Hid ((w.alloc (.cells #[.int .i64 id, .int .i64 ld, .int .i64 ep, .int .i64 vr, .slice a1 isr.length c1, .slice a2 reps.length c2, .slice a3 add.length c3, .slice a4 rem.length c4, .int .i64 mn] 54)).heap[w.heap.size]? = some (.cells #[.int .i64 id, .int .i64 ld, .int .i64 ep, .int .i64 vr, .slice a1 isr.length c1, .slice a2 reps.length c2, .slice a3 add.length c3, .slice a4 rem.length c4, .int .i64 mn] 54)) := heap_alloc_new w _
  have HB : Hid (Below w.heap.size w (w.alloc (.cells #[.int .i64 id, .int .i64 ld, .int .i64 ep, .int .i64 vr, .slice a1 isr.length c1, .slice a2 reps.length c2, .slice a3 add.length c3, .slice a4 rem.length c4, .int .i64 mn] 54))) := (Below.refl _ _).alloc (Nat.le_refl _) _
  have hsz : (w.alloc (.cells #[.int .i64 id, .int .i64 ld, .int .i64 ep, .int .i64 vr, .slice a1 isr.length c1, .slice a2 reps.length c2, .slice a3 add.length c3, .slice a4 rem.length c4, .int .i64 mn] 54)).heap.size = w.heap.size + 1 := by simp
  have G1 := hid (those50_any (Q2.out.under HB.out) (Q4.out.under HB.out))
  clear i0 i1 i2 i3 i4 Q1 Q2 Q3 Q4
  go_enter Tryz.func170, Tryz.ntmps170
  go_wp2_with fail
  refine G1.out.mono ?_
  rintro e W1 ⟨v', rfl, hv, _, hb⟩
  obtain ⟨va, vc, rfl, _⟩ := hv.shape
  have HV := hid hv
  clear hv
  go_wp2_with fail
  go_ret
  exact ⟨_, rfl, HV.out, HB.out.trans (hb.mono HB.out.size)⟩
end Go.Proofs.YtcffomhcmilcpaaGreat
