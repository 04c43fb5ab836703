/- A move that is begun and cancelled, or ended, without memory. -/
import Derived.Test.YtfahepeemodcbaaM10
namespace Go.Proofs.Ytfahepeemodcbaa
set_option linter.unusedSimpArgs false
set_option linter.unusedVariables false

theorem len_sub : ∀ (l m : List Int), l.Nodup → (∀ x ∈ l, x ∈ m) → l.length ≤ m.length
  | [], m, _, _ => Nat.zero_le _
  | x :: r, m, hd, hs => by
    have hx : x ∈ m := hs x (by simp)
    have hd' := List.nodup_cons.1 hd
    have := len_sub r (m.erase x) hd'.2 fun y hy => (List.mem_erase_of_ne (fun e : y = x => hd'.1 (by rw [← e]; exact hy))).2 (hs y (by simp [hy]))
    have hl := List.length_erase_of_mem hx
    have hp : 0 < m.length := List.length_pos_of_mem hx
    simp only [List.length_cons]
    omega
theorem begun {p q : Pt} {t up : List Int} (hp : RightP p) (ha : p.add = []) (hr : p.rem = []) (h : beginP p t up = (q, 0)) (hm : ¬ (q.add = [] ∧ q.rem = [])) :
    RightP q ∧ q = ⟨p.id, p.leader, p.epoch, p.ver + 1, p.isr, t ++ outL p.reps t, outL t p.reps, outL p.reps t, p.min⟩ ∧ (t ≠ [] ∧ t.length ≤ 5 ∧ (t.Nodup ∧ ∀ x ∈ t, 1 ≤ x ∧ x ≤ 7)) ∧ movingB q = true := by
  have hq : RightP q := (begin_rules (k := 0) hp h).1
  obtain ⟨ht, _, _, hc⟩ := begin_cases h
  rcases hc with ⟨_, rfl⟩ | ⟨_, rfl, ho⟩
  · exact absurd ⟨ha, hr⟩ hm
  · refine ⟨hq, ?_, ht, ?_⟩
    · rw [nextP_eq]; simp [begP]
    · unfold movingB
      simp only [Bool.or_eq_true, decide_eq_true_eq, len_pos]
      exact Decidable.byContradiction fun hn => hm ⟨Decidable.byContradiction fun e => hn (.inl e), Decidable.byContradiction fun e => hn (.inr e)⟩
theorem back_pure {p q : Pt} {t up : List Int} (hp : RightP p) (ha : p.add = []) (hr : p.rem = []) (h : beginP p t up = (q, 0)) (hm : ¬ (q.add = [] ∧ q.rem = [])) :
    (cancelP q up = (Pt.zero, 20) ∧ 999999990 < p.ver) ∨ ∃ r, cancelP q up = (r, 0) ∧ r.reps.length = p.reps.length ∧ r.add = [] ∧ r.rem = [] ∧ (∀ x ∈ p.reps, x ∈ r.reps) ∧ r.isr = p.isr ∧ r.leader = p.leader ∧ r.epoch = p.epoch ∧ r.ver = p.ver + 2 := by
  obtain ⟨hq, e, ht, hmv⟩ := begun hp ha hr h hm
  have hna : ∀ x ∈ p.reps, x ∉ outL t p.reps := fun x hx hn => (mem_outL.1 hn).2 hx
  have hall : q.isr.all (hasB q.add) = false := by
    rw [e]
    rw [List.all_eq_false]
    cases hi : p.isr with
    | nil => exact absurd hi hp.some
    | cons x r =>
      refine ⟨x, by simp, ?_⟩
      rw [hasB_iff]
      exact hna x (hp.isrIn x (by rw [hi]; simp))
  have hL : setL q q.add up = p.leader := by
    unfold setL
    rw [if_neg]
    · rw [e]
    · rw [hasB_iff, e]
      intro hn
      rcases hp.lead with h0 | h0
      · rw [h0] at hn
        have := ht.2.2.2 0 (mem_outL.1 hn).1
        omega
      · exact hna _ (hp.isrIn _ h0) hn
  have hc : cancelP q up = changedP (setP q q.add) p.leader := by
    unfold cancelP
    rw [rightB_iff.2 hq, hmv, hall]
    simp [settledP, hL]
  have hn : nextP (setP q q.add) p.leader = ⟨p.id, p.leader, p.epoch, p.ver + 2, p.isr, outL (t ++ outL p.reps t) (outL t p.reps), [], [], p.min⟩ := by
    rw [nextP_eq, e]
    simp only [setP]
    rw [outL_self fun x hx => hna x (hp.isrIn x hx)]
    simp
    omega
  rw [hc]
  unfold changedP
  rw [hn]
  have hov : overB ⟨p.id, p.leader, p.epoch, p.ver + 2, p.isr, outL (t ++ outL p.reps t) (outL t p.reps), [], [], p.min⟩ = decide (1000000000 < p.ver + 2) := by
    have := hp.epoch.2
    simp [overB]
    omega
  rw [hov]
  have hmem : ∀ x, x ∈ outL (t ++ outL p.reps t) (outL t p.reps) ↔ x ∈ p.reps := fun x => by
    rw [mem_outL, List.mem_append, mem_outL, mem_outL]
    by_cases h1 : x ∈ t <;> by_cases h2 : x ∈ p.reps <;> simp [h1, h2]
  by_cases h2 : 1000000000 < p.ver + 2
  · left
    rw [if_pos (by simp [h2])]
    exact ⟨rfl, by omega⟩
  · right
    rw [if_neg (by simp [h2])]
    refine ⟨_, rfl, ?_, rfl, rfl, fun x hx => (hmem x).2 hx, rfl, rfl, rfl, rfl⟩
    have hd : (outL (t ++ outL p.reps t) (outL t p.reps)).Nodup := by
      have := (beg_lists (t := t) hp ht).reps.1
      exact nodup_outL this
    have h3 := len_sub _ _ hd fun x hx => (hmem x).1 hx
    have h4 := len_sub _ _ hp.reps.1 fun x hx => (hmem x).2 hx
    simp only
    omega
end Go.Proofs.Ytfahepeemodcbaa
