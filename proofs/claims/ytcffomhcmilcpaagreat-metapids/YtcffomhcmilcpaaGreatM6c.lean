/- A change. -/
import Derived.Test.YtcffomhcmilcpaaGreatM5b
namespace Go.Proofs.YtcffomhcmilcpaaGreat
open Go.RowKit Go.Maps
set_option linter.unusedSimpArgs false
set_option linter.unusedVariables false
set_option maxRecDepth 100000

/-- What a decision leaves: a state and a number. -/
def Res (X : Nat → Prop) (w : World) (r : Pt × Int) (e : Ending) (w' : World) : Prop := ∃ v, e = .returned (.tuple #[v, .int .i64 r.2]) ∧ PartM w' v r.1 ∧ InP X v r.1 ∧ Below w.heap.size w w'
theorem i64z : I64 0 := by unfold I64; omega
theorem partZ (w : World) : PartM w (.agg #[.int .i64 0, .int .i64 0, .int .i64 0, .int .i64 0, .slice none 0 0, .slice none 0 0, .slice none 0 0, .slice none 0 0, .int .i64 0]) Pt.zero := ⟨_, _, _, _, rfl, IL.nil _, IL.nil _, IL.nil _, IL.nil _, i64z, i64z, i64z, i64z, i64z⟩
theorem inZ (X : Nat → Prop) : InP X (.agg #[.int .i64 0, .int .i64 0, .int .i64 0, .int .i64 0, .slice none 0 0, .slice none 0 0, .slice none 0 0, .slice none 0 0, .int .i64 0]) Pt.zero := inP_of (In.nil _ _) (In.nil _ _) (In.nil _ _) (In.nil _ _)
theorem res_err {X : Nat → Prop} {w w' : World} (n : Int) (hb : Below w.heap.size w w') : Res X w (Pt.zero, n) (.returned (.tuple #[.agg #[.int .i64 0, .int .i64 0, .int .i64 0, .int .i64 0, .slice none 0 0, .slice none 0 0, .slice none 0 0, .slice none 0 0, .int .i64 0], .int .i64 n])) w' := ⟨_, rfl, partZ _, inZ _, hb⟩

set_option maxHeartbeats 3200000 in
theorem changed_any {w : World} {v : Value} {p : Pt} {X : Nat → Prop} (h : PartM w v p) (hX : InP X v p) (l : Int) (hl : I64 l) (he : 1 ≤ p.epoch ∧ p.epoch ≤ 1000000000) (hv : 1 ≤ p.ver ∧ p.ver ≤ 1000000000) : Calls Tryz.prog 159 #[v, .int .i64 l] w fun e w' => Res X w (changedP p l) e w' := by
  obtain ⟨id, ld, ep, vr, isr, reps, add, rem, mn⟩ := p
  obtain ⟨a1, c1, a2, c2, a3, c3, a4, c4, rfl, q1, q2, q3, q4, i0, i1, i2, i3, i4⟩ := h.open
  simp only at q1 q2 q3 q4 i0 i1 i2 i3 i4 ⊢
  have Q1 := hid q1
  have Q2 := hid q2
  have Q3 := hid q3
  have Q4 := hid q4
  clear h q1 q2 q3 q4
  have HXX := hid (hX _ _ _ _ _ _ _ _ _ rfl)
  clear hX
  simp only at he hv
  obtain ⟨he1, he2⟩ := he
  obtain ⟨hv1, hv2⟩ := hv
  have HC : Hid (changedP ⟨id, ld, ep, vr, isr, reps, add, rem, mn⟩ l = if overB (nextP ⟨id, ld, ep, vr, isr, reps, add, rem, mn⟩ l) then (Pt.zero, 20) else (nextP ⟨id, ld, ep, vr, isr, reps, add, rem, mn⟩ l, 0)) := rfl
  have HB2 : Hid (∀ O1 O2, Below w.heap.size w ((w.alloc O1).alloc O2)) := fun O1 O2 => ((Below.refl _ _).alloc (Nat.le_refl _) _).alloc (by simp) _
  by_cases h1 : l = ld
  · subst h1
    have HNx : Hid (nextP ⟨id, l, ep, vr, isr, reps, add, rem, mn⟩ l = ⟨id, l, ep, vr + 1, isr, reps, add, rem, mn⟩) := by show _ = _; simp [nextP]
    rw [HNx.out] at HC
    by_cases h2 : 1000000000 < vr + 1
    · have HO : Hid (changedP ⟨id, l, ep, vr, isr, reps, add, rem, mn⟩ l = (Pt.zero, 20)) := by show _ = _; rw [HC.out, if_pos (by simp [overB]; omega)]
      rw [HO.out]
      clear HC HO HNx i0 i1 i2 i3 i4
      have h3 : ¬ 1000000000 < ep := by omega
      go_enter Tryz.func159, Tryz.ntmps159
      go_wp2_with fail
      exact bodyPost_ret (v := .tuple #[.agg #[.int .i64 0, .int .i64 0, .int .i64 0, .int .i64 0, .slice none 0 0, .slice none 0 0, .slice none 0 0, .slice none 0 0, .int .i64 0], .int .i64 20]) (by simp [results, Tryz.results159, go_sem]) rfl (res_err 20 (HB2.out _ _))
    · have HO : Hid (changedP ⟨id, l, ep, vr, isr, reps, add, rem, mn⟩ l = (⟨id, l, ep, vr + 1, isr, reps, add, rem, mn⟩, 0)) := by show _ = _; rw [HC.out, if_neg (by simp [overB]; omega)]
      rw [HO.out]
      have HI : Hid (I64 id ∧ I64 l ∧ I64 ep ∧ I64 (vr + 1) ∧ I64 mn) := ⟨i0, i1, i2, by unfold I64; omega, i4⟩
      clear HC HO HNx i0 i1 i2 i3 i4
      have h3 : ¬ 1000000000 < ep := by omega
      go_enter Tryz.func159, Tryz.ntmps159
      go_wp2_with fail
      exact bodyPost_ret (v := .tuple #[.agg #[.int .i64 id, .int .i64 l, .int .i64 ep, .int .i64 (vr + 1), .slice a1 isr.length c1, .slice a2 reps.length c2, .slice a3 add.length c3, .slice a4 rem.length c4, .int .i64 mn], .int .i64 0]) (by simp [results, Tryz.results159, go_sem]) rfl ⟨_, rfl, ⟨_, _, _, _, rfl, Q1.out.under (HB2.out _ _), Q2.out.under (HB2.out _ _), Q3.out.under (HB2.out _ _), Q4.out.under (HB2.out _ _), HI.out⟩, inP_of HXX.out.1 HXX.out.2.1 HXX.out.2.2.1 HXX.out.2.2.2, HB2.out _ _⟩
  · have HNx : Hid (nextP ⟨id, ld, ep, vr, isr, reps, add, rem, mn⟩ l = ⟨id, l, ep + 1, vr + 1, isr, reps, add, rem, mn⟩) := by show _ = _; simp [nextP, h1]
    rw [HNx.out] at HC
    by_cases h3 : 1000000000 < ep + 1
    · have HO : Hid (changedP ⟨id, ld, ep, vr, isr, reps, add, rem, mn⟩ l = (Pt.zero, 20)) := by show _ = _; rw [HC.out, if_pos (by simp [overB]; omega)]
      rw [HO.out]
      clear HC HO HNx i0 i1 i2 i3 i4
      go_enter Tryz.func159, Tryz.ntmps159
      go_wp2_with fail
      exact bodyPost_ret (v := .tuple #[.agg #[.int .i64 0, .int .i64 0, .int .i64 0, .int .i64 0, .slice none 0 0, .slice none 0 0, .slice none 0 0, .slice none 0 0, .int .i64 0], .int .i64 20]) (by simp [results, Tryz.results159, go_sem]) rfl (res_err 20 (HB2.out _ _))
    · by_cases h2 : 1000000000 < vr + 1
      · have HO : Hid (changedP ⟨id, ld, ep, vr, isr, reps, add, rem, mn⟩ l = (Pt.zero, 20)) := by show _ = _; rw [HC.out, if_pos (by simp [overB]; omega)]
        rw [HO.out]
        clear HC HO HNx i0 i1 i2 i3 i4
        go_enter Tryz.func159, Tryz.ntmps159
        go_wp2_with fail
        exact bodyPost_ret (v := .tuple #[.agg #[.int .i64 0, .int .i64 0, .int .i64 0, .int .i64 0, .slice none 0 0, .slice none 0 0, .slice none 0 0, .slice none 0 0, .int .i64 0], .int .i64 20]) (by simp [results, Tryz.results159, go_sem]) rfl (res_err 20 (HB2.out _ _))
      · have HO : Hid (changedP ⟨id, ld, ep, vr, isr, reps, add, rem, mn⟩ l = (⟨id, l, ep + 1, vr + 1, isr, reps, add, rem, mn⟩, 0)) := by show _ = _; rw [HC.out, if_neg (by simp [overB]; omega)]
        rw [HO.out]
        have HI : Hid (I64 id ∧ I64 l ∧ I64 (ep + 1) ∧ I64 (vr + 1) ∧ I64 mn) := ⟨i0, hl, by unfold I64; omega, by unfold I64; omega, i4⟩
        clear HC HO HNx i0 i1 i2 i3 i4
        go_enter Tryz.func159, Tryz.ntmps159
        go_wp2_with fail
        exact bodyPost_ret (v := .tuple #[.agg #[.int .i64 id, .int .i64 l, .int .i64 (ep + 1), .int .i64 (vr + 1), .slice a1 isr.length c1, .slice a2 reps.length c2, .slice a3 add.length c3, .slice a4 rem.length c4, .int .i64 mn], .int .i64 0]) (by simp [results, Tryz.results159, go_sem]) rfl ⟨_, rfl, ⟨_, _, _, _, rfl, Q1.out.under (HB2.out _ _), Q2.out.under (HB2.out _ _), Q3.out.under (HB2.out _ _), Q4.out.under (HB2.out _ _), HI.out⟩, inP_of HXX.out.1 HXX.out.2.1 HXX.out.2.2.1 HXX.out.2.2.2, HB2.out _ _⟩
end Go.Proofs.YtcffomhcmilcpaaGreat
