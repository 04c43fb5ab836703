/- A move that ends; fences, without memory. -/
import Derived.Test.YtfahepeemodcbaaM10b
namespace Go.Proofs.Ytfahepeemodcbaa
set_option linter.unusedSimpArgs false
set_option linter.unusedVariables false

def upAll : List Int := [1, 2, 3, 4, 5, 6, 7]
theorem upAll_iff {x : Int} (h : 1 ≤ x ∧ x ≤ 7) : x ∈ upAll := by
  have : x = 1 ∨ x = 2 ∨ x = 3 ∨ x = 4 ∨ x = 5 ∨ x = 6 ∨ x = 7 := by omega
  rcases this with rfl | rfl | rfl | rfl | rfl | rfl | rfl <;> decide
theorem not_moving_same {p q : Pt} {t up : List Int} (ha : p.add = []) (hr : p.rem = []) (h : beginP p t up = (q, 0)) (hm : q.add = [] ∧ q.rem = []) : q.reps = t := by
  obtain ⟨ht, _, _, hc⟩ := begin_cases h
  rcases hc with ⟨h1, rfl⟩ | ⟨_, rfl, ho⟩
  · exact h1
  · rw [nextP_eq] at *
    simp only [begP] at *
    rw [hm.2, List.append_nil]
theorem ends_alter {p q : Pt} {t : List Int} (hp : RightP p) (ha : p.add = []) (hr : p.rem = []) (hld : p.leader ≠ 0) (hv : p.ver ≤ 999999990) (he : p.epoch ≤ 999999990) (h : beginP p t upAll = (q, 0)) (hm : ¬ (q.add = [] ∧ q.rem = [])) :
    alterP q q.leader q.epoch q.ver q.reps upAll = (⟨p.id, p.leader, p.epoch, p.ver + 2, q.reps, q.reps, q.add, q.rem, p.min⟩, 0) := by
  obtain ⟨hq, e, ht, hmv⟩ := begun hp ha hr h hm
  have hlr : p.leader ∈ p.isr := hp.lead.resolve_left hld
  have hlq : q.leader ∈ q.reps := hq.isrIn _ (by rw [e]; exact hlr)
  have h0 : q.leader ≠ 0 := by rw [e]; exact hld
  have hs : syncB q q.reps upAll = true := by
    unfold syncB
    simp only [Bool.and_eq_true, idsB_iff, hasB_iff, List.all_eq_true]
    exact ⟨⟨⟨hq.reps, hlq⟩, fun x hx => hx⟩, fun x hx => upAll_iff (hq.reps.2 x (mem_outL.1 hx).1)⟩
  have hh : heldP q q.epoch q.ver = 0 := by
    unfold heldP
    rw [if_neg (by omega), if_neg (by omega)]
  unfold alterP
  rw [rightB_iff.2 hq, hh, hs]
  simp only [Bool.not_true, Bool.false_eq_true, if_false, ne_eq, not_true_eq_false, h0, or_self]
  rw [inL_self fun x hx => hx]
  unfold changedP
  have hn : nextP { q with isr := q.reps } q.leader = ⟨p.id, p.leader, p.epoch, p.ver + 2, q.reps, q.reps, q.add, q.rem, p.min⟩ := by
    rw [nextP_eq]
    rw [e]
    simp
    omega
  rw [hn, if_neg]
  have := hp.ver
  have := hp.epoch
  simp [overB]
  omega
theorem ends_finish {p q : Pt} {t : List Int} (hp : RightP p) (ha : p.add = []) (hr : p.rem = []) (hld : p.leader ≠ 0) (hv : p.ver ≤ 999999990) (he : p.epoch ≤ 999999990) (h : beginP p t upAll = (q, 0)) (hm : ¬ (q.add = [] ∧ q.rem = [])) :
    ∃ r, finishP ⟨p.id, p.leader, p.epoch, p.ver + 2, q.reps, q.reps, q.add, q.rem, p.min⟩ upAll = (r, 0) ∧ r.reps = t ∧ r.leader ∈ t ∧ r.isr.length = t.length ∧ r.add = [] ∧ r.rem = [] := by
  obtain ⟨hq, e, ht, hmv⟩ := begun hp ha hr h hm
  have hal := alter_rules (k := 0) hq (ends_alter hp ha hr hld hv he h hm)
  have hx := hal.1
  have htar : outL q.reps q.rem = t := by
    rw [e]
    show outL (t ++ outL p.reps t) (outL p.reps t) = t
    unfold outL
    rw [List.filter_append]
    have h1 : t.filter (lackB (p.reps.filter (lackB t))) = t := List.filter_eq_self.2 fun x hx => lackB_iff.2 fun hn => by
      have := (mem_outL (l := p.reps) (m := t)).1 hn
      exact this.2 hx
    have h2 : (p.reps.filter (lackB t)).filter (lackB (p.reps.filter (lackB t))) = [] := List.filter_eq_nil_iff.2 fun x hx hn => (lackB_iff.1 hn) hx
    rw [h1, h2, List.append_nil]
  have hmv' : movingB ⟨p.id, p.leader, p.epoch, p.ver + 2, q.reps, q.reps, q.add, q.rem, p.min⟩ = true := hmv
  have hall : (targetsP ⟨p.id, p.leader, p.epoch, p.ver + 2, q.reps, q.reps, q.add, q.rem, p.min⟩).all (hasB q.reps) = true := by
    rw [List.all_eq_true]
    intro x hx
    exact hasB_iff.2 (mem_outL.1 hx).1
  have hset : setP ⟨p.id, p.leader, p.epoch, p.ver + 2, q.reps, q.reps, q.add, q.rem, p.min⟩ q.rem = ⟨p.id, p.leader, p.epoch, p.ver + 2, t, t, [], [], p.min⟩ := by
    simp [setP, htar]
  have hlr : p.leader ∈ p.isr := hp.lead.resolve_left hld
  have hlq : p.leader ∈ q.reps := hq.isrIn _ (by rw [e]; exact hlr)
  have hL : setL ⟨p.id, p.leader, p.epoch, p.ver + 2, q.reps, q.reps, q.add, q.rem, p.min⟩ q.rem upAll ∈ t := by
    unfold setL
    split
    · rename_i hg
      rw [hset]
      have hg' : p.leader ∈ q.rem := hasB_iff.1 hg
      have hnt : p.leader ∉ t := by rw [← htar]; exact fun hn => (mem_outL.1 hn).2 hg'
      unfold heirP
      simp only
      have e1 : inL t t = t := inL_self fun x hx => hx
      have e2 : inL t upAll = t := inL_self fun x hx => upAll_iff (ht.2.2.2 x hx)
      have e3 : outL t [p.leader] = t := outL_self fun x hx hn => by simp at hn; subst hn; exact hnt hx
      rw [e1, e2, e3]
      cases t with
      | nil => exact absurd rfl ht.1
      | cons y r => simp [headL]
    · rename_i hg
      rw [← htar]
      exact mem_outL.2 ⟨hlq, fun hn => hg (hasB_iff.2 hn)⟩
  have hfin : finishP ⟨p.id, p.leader, p.epoch, p.ver + 2, q.reps, q.reps, q.add, q.rem, p.min⟩ upAll = changedP ⟨p.id, p.leader, p.epoch, p.ver + 2, t, t, [], [], p.min⟩ (setL ⟨p.id, p.leader, p.epoch, p.ver + 2, q.reps, q.reps, q.add, q.rem, p.min⟩ q.rem upAll) := by
    unfold finishP
    rw [rightB_iff.2 hx, hmv', hall]
    simp only [settledP, hset]
    simp
  rw [hfin]
  generalize setL ⟨p.id, p.leader, p.epoch, p.ver + 2, q.reps, q.reps, q.add, q.rem, p.min⟩ q.rem upAll = L at *
  rcases changed_cases ⟨p.id, p.leader, p.epoch, p.ver + 2, t, t, [], [], p.min⟩ L with hc | hc
  · exfalso
    unfold changedP at hc
    split at hc
    · rename_i ho
      rw [nextP_eq] at ho
      have := hp.ver
      have := hp.epoch
      simp only [overB, decide_eq_true_eq] at ho
      split at ho <;> omega
    · have := congrArg Prod.snd hc
      simp at this
  · rw [hc]
    refine ⟨_, rfl, ?_⟩
    rw [nextP_eq]
    exact ⟨rfl, hL, rfl, rfl, rfl⟩
end Go.Proofs.Ytfahepeemodcbaa
