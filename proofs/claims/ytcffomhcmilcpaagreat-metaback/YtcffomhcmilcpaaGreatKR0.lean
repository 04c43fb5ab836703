/- What records keep to, without memory: versions and epochs rise, a leader is in sync and up. -/
import Derived.Test.YtcffomhcmilcpaaGreatL0
import Derived.Test.YtcffomhcmilcpaaGreatK7
namespace Go.Proofs.YtcffomhcmilcpaaGreat
set_option linter.unusedSimpArgs false
set_option linter.unusedVariables false

/-- From one state of a partition to the next. -/
structure Rise (p q : Pt) (k : Int) : Prop where
  ver : q.ver = p.ver ∨ q.ver = p.ver + 1
  ep : (q.leader = p.leader ∧ q.epoch = p.epoch) ∨ (q.leader ≠ p.leader ∧ q.epoch = p.epoch + 1)
  lead : q.leader ≠ 0 → q.leader ≠ p.leader → q.leader ∈ p.isr
  reps : ∀ x ∈ p.reps, x ∈ q.reps ∨ k = 10 ∨ (k = 7 ∧ x ∈ p.add)
  done : k = 10 → q.ver ≠ p.ver → ∀ x ∈ q.reps, x ∈ p.isr
theorem Rise.refl (p : Pt) (k : Int) : Rise p p k := ⟨.inl rfl, .inl ⟨rfl, rfl⟩, fun _ h => absurd rfl h, fun x hx => .inl hx, fun _ h => absurd rfl h⟩
theorem rise_of {p q : Pt} {k : Int} (h : Rules p q 0) (hk : k ≠ 10) : Rise p q k := by
  obtain ⟨_, rfl | ⟨_, _, hv, he, hl, hr⟩⟩ := h
  · exact Rise.refl _ _
  · exact ⟨.inr hv, he, fun h0 h1 => (hl h1 h0).1, fun x hx => by
      rcases hr x hx with h | h | h
      · exact .inl h
      · omega
      · omega, fun h => absurd h hk⟩
theorem rise_stay {p q : Pt} (h : Rules p q 5) : Rise p q 7 := by
  obtain ⟨_, rfl | ⟨_, _, hv, he, hl, hr⟩⟩ := h
  · exact Rise.refl _ _
  · exact ⟨.inr hv, he, fun h0 h1 => (hl h1 h0).1, fun x hx => by
      rcases hr x hx with h | h | h
      · exact .inl h
      · exact .inr (.inr ⟨rfl, h.2⟩)
      · omega, fun h => by omega⟩
theorem rise_done {p q : Pt} {up : List Int} (hp : RightP p) (h : finishP p up = (q, 0)) : Rise p q 10 := by
  have hr := finish_rules hp h
  obtain ⟨_, ht, hq, _⟩ := finish_cases h
  obtain ⟨_, rfl | ⟨_, _, hv, he, hl, hr⟩⟩ := hr
  · exact Rise.refl _ _
  · refine ⟨.inr hv, he, fun h0 h1 => (hl h1 h0).1, fun x hx => .inr (.inl rfl), fun _ _ x hx => ?_⟩
    rw [hq, nextP_eq] at hx
    exact ht x hx
/-- A leader is up; versions and epochs are small. -/
structure LUp (I : Im) : Prop where
  up : ∀ p ∈ I.parts, p.leader = 0 ∨ p.leader ∈ upL I.brs
  small : ∀ p ∈ I.parts, p.ver ≤ I.applied + 1 ∧ p.epoch ≤ I.applied + 1
theorem LUp.new : LUp Im.new := ⟨fun p hp => by simp [Im.new] at hp, fun p hp => by simp [Im.new] at hp⟩
theorem rules_small {p q : Pt} {k : Int} (h : Rules p q k) {n : Int} (hs : p.ver ≤ n ∧ p.epoch ≤ n) : q.ver ≤ n + 1 ∧ q.epoch ≤ n + 1 := by
  obtain ⟨_, rfl | ⟨_, _, hv, he, _⟩⟩ := h
  · omega
  · rcases he with ⟨_, e⟩ | ⟨_, e⟩ <;> omega
/-- Nothing is too great. -/
theorem changed_ok {p : Pt} {l : Int} (hs : p.ver < 1000000000 ∧ p.epoch < 1000000000) : changedP p l = (nextP p l, 0) := by
  unfold changedP
  rw [if_neg]
  unfold overB
  rw [nextP_eq]
  simp only [decide_eq_true_eq, not_or]
  split <;> omega
theorem fence_lead {p : Pt} {b : Int} {up : List Int} (hp : RightP p) (hb : upB b 7 = true) (hs : p.ver < 1000000000 ∧ p.epoch < 1000000000) : ∃ q, fenceP p b up = (q, 0) ∧ (q.leader = 0 ∨ q.leader ∈ up ∨ (q.leader = p.leader ∧ p.leader ≠ b)) := by
  unfold fenceP
  rw [rightB_iff.2 hp, hb]
  rw [if_neg (by simp)]
  have hl : fenL p b up = 0 ∨ fenL p b up ∈ up ∨ (fenL p b up = p.leader ∧ p.leader ≠ b) := by
    unfold fenL
    split
    · rcases heir_spec (fenP p b) up with h | ⟨_, _, h, _⟩
      · exact .inl h
      · exact .inr (.inl h)
    · rename_i hne
      exact .inr (.inr ⟨rfl, hne⟩)
  split
  · rename_i h2
    refine ⟨_, rfl, ?_⟩
    show (fenP p b).leader = 0 ∨ _
    have e : (fenP p b).leader = fenL p b up := h2.1.symm
    rw [e]
    exact hl
  · have e : changedP (fenP p b) (fenL p b up) = (nextP (fenP p b) (fenL p b up), 0) := changed_ok hs
    refine ⟨_, e, ?_⟩
    rw [nextP_eq]
    exact hl
theorem set_lead {p : Pt} {g up : List Int} : setL p g up = 0 ∨ setL p g up ∈ up ∨ setL p g up = p.leader := by
  unfold setL
  split
  · rcases heir_spec (setP p g) up with h | ⟨_, _, h, _⟩
    · exact .inl h
    · exact .inr (.inl h)
  · exact .inr (.inr rfl)
theorem mem_upL {bs : BM} {n : Int} (h : (valB bs n).up = true) : n ∈ upL bs := by
  unfold valB at h
  cases e : getB bs n with
  | none => rw [e] at h; simp [zeroB] at h
  | some b =>
    rw [e] at h
    exact List.mem_map.2 ⟨(n, b), List.mem_filter.2 ⟨getB_mem e, h⟩, rfl⟩
/-- A partition is turned. -/
theorem turn_rise {bs : BM} {r : Rc} {p q : Pt} (hp : RightP p) (hk : r.kind = 5 ∨ r.kind = 6 ∨ r.kind = 7 ∨ r.kind = 10 ∨ r.kind = 9) (h : turnP bs r p = (q, 0)) : Rise p q r.kind ∧ (∃ k, Rules p q k) ∧ (q.leader = 0 ∨ q.leader ∈ upL bs ∨ q.leader = p.leader) := by
  unfold turnP at h
  split at h
  · rename_i e
    refine ⟨rise_of (alter_rules hp h) (by omega), ⟨0, alter_rules hp h⟩, ?_⟩
    unfold alterP at h
    split at h
    · cases h
    split at h
    · rename_i h2; exact absurd (congrArg Prod.snd h) h2
    split at h
    · cases h
    rename_i h3
    split at h
    · cases h
    obtain ⟨rfl, _⟩ := changed_zero h
    rw [nextP_eq]
    exact .inr (.inr (Decidable.byContradiction fun e => h3 (.inr e)))
  split at h
  · rename_i e
    refine ⟨rise_of (begin_rules hp h) (by omega), ⟨0, begin_rules hp h⟩, ?_⟩
    obtain ⟨_, _, _, hc⟩ := begin_cases h
    rcases hc with ⟨_, rfl⟩ | ⟨_, rfl, _⟩
    · exact .inr (.inr rfl)
    · rw [nextP_eq]; exact .inr (.inr rfl)
  split at h
  · rename_i e
    rw [e]
    refine ⟨rise_stay (cancel_rules hp h), ⟨5, cancel_rules hp h⟩, ?_⟩
    obtain ⟨_, _, rfl, _⟩ := cancel_cases h
    rw [nextP_eq]
    exact set_lead
  split at h
  · rename_i e
    rw [e]
    refine ⟨rise_done hp h, ⟨6, finish_rules hp h⟩, ?_⟩
    obtain ⟨_, _, rfl, _⟩ := finish_cases h
    rw [nextP_eq]
    exact set_lead
  · unfold preferP at h
    split at h
    · cases h
    rename_i hu
    refine ⟨rise_of (elect_rules hp h) (by omega), ⟨0, elect_rules hp h⟩, ?_⟩
    have hu' : (valB bs (headL p.reps)).up = true := by simpa using hu
    unfold electP at h
    split at h
    · cases h
    split at h
    · cases h
    split at h
    · cases h; exact .inr (.inr rfl)
    · obtain ⟨rfl, _⟩ := changed_zero h
      rw [nextP_eq]
      exact .inr (.inl (mem_upL hu'))
end Go.Proofs.YtcffomhcmilcpaaGreat

