/- Another leader, a change, a copy: the document's. -/
import Derived.Test.YtfahepeemodcbaaN1
namespace Go.Proofs.Ytfahepeemodcbaa
open Go.RowKit Go.Maps
set_option linter.unusedSimpArgs false
set_option linter.unusedVariables false
set_option maxRecDepth 100000

def ledP (p : Pt) (l : Int) : Pt := if p.leader = l then p else { p with leader := l, epoch := p.epoch + 1 }
def verP (p : Pt) : Pt × Int := if 1000000000 < p.ver + 1 ∨ 1000000000 < p.epoch then (Pt.zero, 20) else ({ p with ver := p.ver + 1 }, 0)
theorem led_ver (p : Pt) (l : Int) : verP (ledP p l) = changedP p l := by
  obtain ⟨id, ld, ep, vr, isr, reps, add, rem, mn⟩ := p
  by_cases h : ld = l
  · subst h
    have e1 : ledP ⟨id, ld, ep, vr, isr, reps, add, rem, mn⟩ ld = ⟨id, ld, ep, vr, isr, reps, add, rem, mn⟩ := by simp [ledP]
    have e2 : nextP ⟨id, ld, ep, vr, isr, reps, add, rem, mn⟩ ld = ⟨id, ld, ep, vr + 1, isr, reps, add, rem, mn⟩ := by simp [nextP]
    unfold changedP
    rw [e1, e2]
    show (if 1000000000 < vr + 1 ∨ 1000000000 < ep then _ else _) = _
    by_cases h2 : 1000000000 < vr + 1 ∨ 1000000000 < ep
    · rw [if_pos h2, if_pos]
      simp only [overB, decide_eq_true_eq]; omega
    · rw [if_neg h2, if_neg]
      simp only [overB, decide_eq_true_eq]; omega
  · have e1 : ledP ⟨id, ld, ep, vr, isr, reps, add, rem, mn⟩ l = ⟨id, l, ep + 1, vr, isr, reps, add, rem, mn⟩ := by simp [ledP, h]
    have e2 : nextP ⟨id, ld, ep, vr, isr, reps, add, rem, mn⟩ l = ⟨id, l, ep + 1, vr + 1, isr, reps, add, rem, mn⟩ := by unfold nextP; rw [if_neg (fun e => h (Eq.symm e))]
    unfold changedP
    rw [e1, e2]
    show (if 1000000000 < vr + 1 ∨ 1000000000 < ep + 1 then _ else _) = _
    by_cases h2 : 1000000000 < vr + 1 ∨ 1000000000 < ep + 1
    · rw [if_pos h2, if_pos]
      simp only [overB, decide_eq_true_eq]; omega
    · rw [if_neg h2, if_neg]
      simp only [overB, decide_eq_true_eq]; omega
theorem ver_changed (p : Pt) : verP p = changedP p p.leader := by rw [← led_ver]; unfold ledP; rw [if_pos rfl]
set_option maxHeartbeats 3200000 in
theorem rleads_any {w : World} {v : Value} {p : Pt} {X : Nat → Prop} (h : PartM w v p) (hX : InP X v p) (l : Int) (hl : I64 l) (he : 1 ≤ p.epoch ∧ p.epoch ≤ 1000000000) : Calls Try.prog 62 #[v, .int .i64 l] w fun e w' => ∃ v', e = .returned v' ∧ PartM w' v' (ledP p l) ∧ InP X v' (ledP p l) ∧ Below w.heap.size w w' := by
  obtain ⟨id, ld, ep, vr, isr, reps, add, rem, mn⟩ := p
  obtain ⟨a1, c1, a2, c2, a3, c3, a4, c4, rfl, q1, q2, q3, q4, i0, i1, i2, i3, i4⟩ := h.open
  simp only at q1 q2 q3 q4 i0 i1 i2 i3 i4 ⊢
  have Q1 := hid q1
  have Q2 := hid q2
  have Q3 := hid q3
  have Q4 := hid q4
  clear h q1 q2 q3 q4
  have HXX := hid (hX _ _ _ _ _ _ _ _ _ rfl)
  clear hX
  simp only at he
  obtain ⟨he1, he2⟩ := he
  have HB2 : Hid (∀ O1 O2, Below w.heap.size w ((w.alloc O1).alloc O2)) := fun O1 O2 => ((Below.refl _ _).alloc (Nat.le_refl _) _).alloc (by simp) _
  by_cases h1 : ld = l
  · subst h1
    have HE : Hid (ledP ⟨id, ld, ep, vr, isr, reps, add, rem, mn⟩ ld = ⟨id, ld, ep, vr, isr, reps, add, rem, mn⟩) := by show _ = _; simp [ledP]
    rw [HE.out]
    have HI : Hid (I64 id ∧ I64 ld ∧ I64 ep ∧ I64 vr ∧ I64 mn) := ⟨i0, i1, i2, i3, i4⟩
    clear HE i0 i1 i2 i3 i4
    go_enter Try.func62, Try.ntmps62
    go_wp2_with fail
    exact bodyPost_ret (v := .agg #[.int .i64 id, .int .i64 ld, .int .i64 ep, .int .i64 vr, .slice a1 isr.length c1, .slice a2 reps.length c2, .slice a3 add.length c3, .slice a4 rem.length c4, .int .i64 mn]) (by simp [results, Try.results62, go_sem]) rfl ⟨_, rfl, ⟨_, _, _, _, rfl, Q1.out.under (HB2.out _ _), Q2.out.under (HB2.out _ _), Q3.out.under (HB2.out _ _), Q4.out.under (HB2.out _ _), HI.out⟩, inP_of HXX.out.1 HXX.out.2.1 HXX.out.2.2.1 HXX.out.2.2.2, HB2.out _ _⟩
  · have HE : Hid (ledP ⟨id, ld, ep, vr, isr, reps, add, rem, mn⟩ l = ⟨id, l, ep + 1, vr, isr, reps, add, rem, mn⟩) := by show _ = _; simp [ledP, h1]
    rw [HE.out]
    have HI : Hid (I64 id ∧ I64 l ∧ I64 (ep + 1) ∧ I64 vr ∧ I64 mn) := ⟨i0, hl, by unfold I64; omega, i3, i4⟩
    clear HE i0 i1 i2 i3 i4
    go_enter Try.func62, Try.ntmps62
    go_wp2_with fail
    exact bodyPost_ret (v := .agg #[.int .i64 id, .int .i64 l, .int .i64 (ep + 1), .int .i64 vr, .slice a1 isr.length c1, .slice a2 reps.length c2, .slice a3 add.length c3, .slice a4 rem.length c4, .int .i64 mn]) (by simp [results, Try.results62, go_sem]) rfl ⟨_, rfl, ⟨_, _, _, _, rfl, Q1.out.under (HB2.out _ _), Q2.out.under (HB2.out _ _), Q3.out.under (HB2.out _ _), Q4.out.under (HB2.out _ _), HI.out⟩, inP_of HXX.out.1 HXX.out.2.1 HXX.out.2.2.1 HXX.out.2.2.2, HB2.out _ _⟩
set_option maxHeartbeats 3200000 in
theorem rchanged_any {w : World} {v : Value} {p : Pt} {X : Nat → Prop} (h : PartM w v p) (hX : InP X v p) (hv : 1 ≤ p.ver ∧ p.ver ≤ 1000000000) : Calls Try.prog 61 #[v] w fun e w' => Res X w (verP p) e w' := by
  obtain ⟨id, ld, ep, vr, isr, reps, add, rem, mn⟩ := p
  obtain ⟨a1, c1, a2, c2, a3, c3, a4, c4, rfl, q1, q2, q3, q4, i0, i1, i2, i3, i4⟩ := h.open
  simp only at q1 q2 q3 q4 i0 i1 i2 i3 i4 ⊢
  have Q1 := hid q1
  have Q2 := hid q2
  have Q3 := hid q3
  have Q4 := hid q4
  clear h q1 q2 q3 q4
  have HXX := hid (hX _ _ _ _ _ _ _ _ _ rfl)
  clear hX
  simp only at hv
  obtain ⟨hv1, hv2⟩ := hv
  have HB2 : Hid (∀ O1 O2, Below w.heap.size w ((w.alloc O1).alloc O2)) := fun O1 O2 => ((Below.refl _ _).alloc (Nat.le_refl _) _).alloc (by simp) _
  by_cases h2 : 1000000000 < vr + 1
  · have HE : Hid (verP ⟨id, ld, ep, vr, isr, reps, add, rem, mn⟩ = (Pt.zero, 20)) := by show _ = _; unfold verP; rw [if_pos (.inl h2)]
    rw [HE.out]
    clear HE i0 i1 i2 i3 i4
    go_enter Try.func61, Try.ntmps61
    go_wp2_with fail
    exact bodyPost_ret (v := .tuple #[.agg #[.int .i64 0, .int .i64 0, .int .i64 0, .int .i64 0, .slice none 0 0, .slice none 0 0, .slice none 0 0, .slice none 0 0, .int .i64 0], .int .i64 20]) (by simp [results, Try.results61, go_sem]) rfl (res_err 20 (HB2.out _ _))
  · by_cases h3 : 1000000000 < ep
    · have HE : Hid (verP ⟨id, ld, ep, vr, isr, reps, add, rem, mn⟩ = (Pt.zero, 20)) := by show _ = _; unfold verP; rw [if_pos (.inr h3)]
      rw [HE.out]
      clear HE i0 i1 i2 i3 i4
      go_enter Try.func61, Try.ntmps61
      go_wp2_with fail
      exact bodyPost_ret (v := .tuple #[.agg #[.int .i64 0, .int .i64 0, .int .i64 0, .int .i64 0, .slice none 0 0, .slice none 0 0, .slice none 0 0, .slice none 0 0, .int .i64 0], .int .i64 20]) (by simp [results, Try.results61, go_sem]) rfl (res_err 20 (HB2.out _ _))
    · have HE : Hid (verP ⟨id, ld, ep, vr, isr, reps, add, rem, mn⟩ = (⟨id, ld, ep, vr + 1, isr, reps, add, rem, mn⟩, 0)) := by show _ = _; unfold verP; rw [if_neg (by simp only; omega)]
      rw [HE.out]
      have HI : Hid (I64 id ∧ I64 ld ∧ I64 ep ∧ I64 (vr + 1) ∧ I64 mn) := ⟨i0, i1, i2, by unfold I64; omega, i4⟩
      clear HE i0 i1 i2 i3 i4
      go_enter Try.func61, Try.ntmps61
      go_wp2_with fail
      exact bodyPost_ret (v := .tuple #[.agg #[.int .i64 id, .int .i64 ld, .int .i64 ep, .int .i64 (vr + 1), .slice a1 isr.length c1, .slice a2 reps.length c2, .slice a3 add.length c3, .slice a4 rem.length c4, .int .i64 mn], .int .i64 0]) (by simp [results, Try.results61, go_sem]) rfl ⟨_, rfl, ⟨_, _, _, _, rfl, Q1.out.under (HB2.out _ _), Q2.out.under (HB2.out _ _), Q3.out.under (HB2.out _ _), Q4.out.under (HB2.out _ _), HI.out⟩, inP_of HXX.out.1 HXX.out.2.1 HXX.out.2.2.1 HXX.out.2.2.2, HB2.out _ _⟩
end Go.Proofs.Ytfahepeemodcbaa
