/- isMoving, mayBeTargets, heldAgainst. -/
import Derived.Test.YtcffomhcmilcpaaGreatM5b
namespace Go.Proofs.YtcffomhcmilcpaaGreat
open Go.RowKit Go.Maps
set_option linter.unusedSimpArgs false
set_option linter.unusedVariables false
set_option maxRecDepth 100000

set_option maxHeartbeats 1600000 in
theorem moving_any {w : World} {v : Value} {p : Pt} (h : PartM w v p) : Calls Tryz.prog 202 #[v] w fun e w' => e = .returned (.bool (movingB p)) ∧ Below w.heap.size w w' := by
  obtain ⟨id, ld, ep, vr, isr, reps, add, rem, mn⟩ := p
  obtain ⟨a1, c1, a2, c2, a3, c3, a4, c4, rfl, q1, q2, q3, q4, i0, i1, i2, i3, i4⟩ := h.open
  simp only at q1 q2 q3 q4 i0 i1 i2 i3 i4 ⊢
  have Q1 := hid q1
  have Q2 := hid q2
  have Q3 := hid q3
  have Q4 := hid q4
  clear h q1 q2 q3 q4
  have HX : Hid ((w.alloc (.cells #[.int .i64 id, .int .i64 ld, .int .i64 ep, .int .i64 vr, .slice a1 isr.length c1, .slice a2 reps.length c2, .slice a3 add.length c3, .slice a4 rem.length c4, .int .i64 mn] 54)).heap[w.heap.size]? = some (.cells #[.int .i64 id, .int .i64 ld, .int .i64 ep, .int .i64 vr, .slice a1 isr.length c1, .slice a2 reps.length c2, .slice a3 add.length c3, .slice a4 rem.length c4, .int .i64 mn] 54)) := heap_alloc_new w _
  have HB : Hid (Below w.heap.size w (w.alloc (.cells #[.int .i64 id, .int .i64 ld, .int .i64 ep, .int .i64 vr, .slice a1 isr.length c1, .slice a2 reps.length c2, .slice a3 add.length c3, .slice a4 rem.length c4, .int .i64 mn] 54))) := (Below.refl _ _).alloc (Nat.le_refl _) _
  have hsz : (w.alloc (.cells #[.int .i64 id, .int .i64 ld, .int .i64 ep, .int .i64 vr, .slice a1 isr.length c1, .slice a2 reps.length c2, .slice a3 add.length c3, .slice a4 rem.length c4, .int .i64 mn] 54)).heap.size = w.heap.size + 1 := by simp
  have HN : Hid (movingB ⟨id, ld, ep, vr, isr, reps, add, rem, mn⟩ = (decide (0 < add.length) || decide (0 < rem.length))) := rfl
  rw [HN.out]
  clear HN i0 i1 i2 i3 i4 Q1 Q2 Q3 Q4
  by_cases h0 : 0 < add.length
  · have h0' : (0 : Int) < (add.length : Int) := by omega
    go_enter Tryz.func202, Tryz.ntmps202
    go_wp2_with fail
    go_ret
    exact ⟨ret_bool (by simp [h0]), HB.out⟩
  · have h0' : ¬ (0 : Int) < (add.length : Int) := by omega
    go_enter Tryz.func202, Tryz.ntmps202
    go_wp2_with fail
    go_ret
    exact ⟨ret_bool (by simp [h0]), HB.out⟩
set_option maxHeartbeats 1600000 in
theorem mayT_any {w : World} {v : Value} {l : List Int} (h : IL w v l) : Calls Tryz.prog 201 #[v] w fun e w' => e = .returned (.bool (mayB l)) ∧ Below w.heap.size w w' := by
  have HN : Hid (mayB l = (upB l.length 5 && idsB l)) := rfl
  have G2 := hid (areRight_any h)
  have hf := h.few
  obtain ⟨a, c, rfl, _⟩ := h.shape
  have G1 := hid (isUpTo_any (l.length : Int) 5 w (by unfold I64; omega) (by unfold I64; omega))
  rw [HN.out]
  generalize upB (l.length : Int) 5 = B1 at *
  generalize idsB l = B2 at *
  clear HN h
  go_enter Tryz.func201, Tryz.ntmps201
  go_wp2_with fail
  refine G1.out.mono ?_
  rintro e w1 ⟨rfl, rfl⟩
  cases B1
  · go_wp2_with fail
    go_ret
    exact ⟨by first | rfl | simp, Below.refl _ _⟩
  go_wp2_with fail
  refine G2.out.mono ?_
  rintro e w1 ⟨rfl, hb⟩
  go_wp2_with fail
  go_ret
  exact ⟨ret_bool (by simp), hb⟩
set_option maxHeartbeats 1600000 in
theorem held_any {w : World} {v : Value} {p : Pt} (h : PartM w v p) (e v0 : Int) (he : I64 e) (hv : I64 v0) : Calls Tryz.prog 199 #[v, .int .i64 e, .int .i64 v0] w fun e' w' => e' = .returned (.int .i64 (heldP p e v0)) ∧ Below w.heap.size w w' := by
  obtain ⟨id, ld, ep, vr, isr, reps, add, rem, mn⟩ := p
  obtain ⟨a1, c1, a2, c2, a3, c3, a4, c4, rfl, q1, q2, q3, q4, i0, i1, i2, i3, i4⟩ := h.open
  simp only at q1 q2 q3 q4 i0 i1 i2 i3 i4 ⊢
  have Q1 := hid q1
  have Q2 := hid q2
  have Q3 := hid q3
  have Q4 := hid q4
  clear h q1 q2 q3 q4
  have HX : Hid ((w.alloc (.cells #[.int .i64 id, .int .i64 ld, .int .i64 ep, .int .i64 vr, .slice a1 isr.length c1, .slice a2 reps.length c2, .slice a3 add.length c3, .slice a4 rem.length c4, .int .i64 mn] 54)).heap[w.heap.size]? = some (.cells #[.int .i64 id, .int .i64 ld, .int .i64 ep, .int .i64 vr, .slice a1 isr.length c1, .slice a2 reps.length c2, .slice a3 add.length c3, .slice a4 rem.length c4, .int .i64 mn] 54)) := heap_alloc_new w _
  have HB : Hid (Below w.heap.size w (w.alloc (.cells #[.int .i64 id, .int .i64 ld, .int .i64 ep, .int .i64 vr, .slice a1 isr.length c1, .slice a2 reps.length c2, .slice a3 add.length c3, .slice a4 rem.length c4, .int .i64 mn] 54))) := (Below.refl _ _).alloc (Nat.le_refl _) _
  have hsz : (w.alloc (.cells #[.int .i64 id, .int .i64 ld, .int .i64 ep, .int .i64 vr, .slice a1 isr.length c1, .slice a2 reps.length c2, .slice a3 add.length c3, .slice a4 rem.length c4, .int .i64 mn] 54)).heap.size = w.heap.size + 1 := by simp
  have HN : Hid (heldP ⟨id, ld, ep, vr, isr, reps, add, rem, mn⟩ e v0 = if e < ep ∨ (e = ep ∧ v0 < vr) then 13 else if ep < e ∨ vr < v0 then 14 else 0) := rfl
  clear i0 i1 i2 i3 i4 Q1 Q2 Q3 Q4
  by_cases h1 : e < ep
  · have HV : Hid (heldP ⟨id, ld, ep, vr, isr, reps, add, rem, mn⟩ e v0 = 13) := by show _ = _; rw [HN.out, if_pos (.inl h1)]
    rw [HV.out]
    clear HN HV
    go_enter Tryz.func199, Tryz.ntmps199
    go_wp2_with fail
    go_ret
    exact ⟨rfl, HB.out⟩
  · by_cases h2 : e = ep
    · subst h2
      by_cases h3 : v0 < vr
      · have HV : Hid (heldP ⟨id, ld, e, vr, isr, reps, add, rem, mn⟩ e v0 = 13) := by show _ = _; rw [HN.out, if_pos (.inr ⟨rfl, h3⟩)]
        rw [HV.out]
        clear HN HV
        go_enter Tryz.func199, Tryz.ntmps199
        go_wp2_with fail
        go_ret
        exact ⟨rfl, HB.out⟩
      · by_cases h4 : vr < v0
        · have HV : Hid (heldP ⟨id, ld, e, vr, isr, reps, add, rem, mn⟩ e v0 = 14) := by show _ = _; rw [HN.out, if_neg (by omega), if_pos (.inr h4)]
          rw [HV.out]
          clear HN HV
          go_enter Tryz.func199, Tryz.ntmps199
          go_wp2_with fail
          go_ret
          exact ⟨rfl, HB.out⟩
        · have HV : Hid (heldP ⟨id, ld, e, vr, isr, reps, add, rem, mn⟩ e v0 = 0) := by show _ = _; rw [HN.out, if_neg (by omega), if_neg (by omega)]
          rw [HV.out]
          clear HN HV
          go_enter Tryz.func199, Tryz.ntmps199
          go_wp2_with fail
          go_ret
          exact ⟨rfl, HB.out⟩
    · have h3 : ep < e := by omega
      have HV : Hid (heldP ⟨id, ld, ep, vr, isr, reps, add, rem, mn⟩ e v0 = 14) := by show _ = _; rw [HN.out, if_neg (by omega), if_pos (.inl h3)]
      rw [HV.out]
      clear HN HV
      go_enter Tryz.func199, Tryz.ntmps199
      go_wp2_with fail
      go_ret
      exact ⟨rfl, HB.out⟩
end Go.Proofs.YtcffomhcmilcpaaGreat
