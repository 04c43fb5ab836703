/- What decisions keep to, without memory. -/
import Derived.Test.YtcffomhcmilcpaaGreatM0
namespace Go.Proofs.YtcffomhcmilcpaaGreat
set_option linter.unusedSimpArgs false
set_option linter.unusedVariables false

theorem nextP_eq (p : Pt) (l : Int) : nextP p l = ⟨p.id, l, if l = p.leader then p.epoch else p.epoch + 1, p.ver + 1, p.isr, p.reps, p.add, p.rem, p.min⟩ := by
  unfold nextP
  split
  · rename_i h; subst h; rfl
  · rfl
theorem changed_zero {p q : Pt} {l : Int} (h : changedP p l = (q, 0)) : q = nextP p l ∧ overB (nextP p l) = false := by
  unfold changedP at h
  cases ho : overB (nextP p l) with
  | true => rw [if_pos ho] at h; cases h
  | false => rw [if_neg (by simp [ho])] at h; cases h; exact ⟨rfl, rfl⟩
theorem changed_cases (p : Pt) (l : Int) : changedP p l = (Pt.zero, 20) ∨ changedP p l = (nextP p l, 0) := by
  unfold changedP
  split
  · exact .inl rfl
  · exact .inr rfl
theorem over_false {p : Pt} (h : overB p = false) : p.epoch ≤ 1000000000 ∧ p.ver ≤ 1000000000 := by
  unfold overB at h
  have := of_decide_eq_false h
  omega

/-- The lists of a state. -/
structure ListsP (p : Pt) : Prop where
  id : 1 ≤ p.id ∧ p.id ≤ 16
  min : 1 ≤ p.min ∧ p.min ≤ 5
  isr : p.isr.Nodup ∧ ∀ x ∈ p.isr, 1 ≤ x ∧ x ≤ 7
  reps : p.reps.Nodup ∧ ∀ x ∈ p.reps, 1 ≤ x ∧ x ≤ 7
  add : p.add.Nodup ∧ ∀ x ∈ p.add, 1 ≤ x ∧ x ≤ 7
  rem : p.rem.Nodup ∧ ∀ x ∈ p.rem, 1 ≤ x ∧ x ≤ 7
  some : p.isr ≠ []
  isrIn : ∀ x ∈ p.isr, x ∈ p.reps
  addIn : ∀ x ∈ p.add, x ∈ p.reps
  remIn : ∀ x ∈ p.rem, x ∈ p.reps
  apart : ∀ x ∈ p.rem, x ∉ p.add
  left : outL p.reps p.rem ≠ []
theorem RightP.lists {p : Pt} (h : RightP p) : ListsP p := ⟨h.id, h.min, h.isr, h.reps, h.add, h.rem, h.some, h.isrIn, h.addIn, h.remIn, h.apart, h.left⟩
theorem next_right {p : Pt} {l : Int} (h : ListsP p) (he : 1 ≤ p.epoch) (hv : 1 ≤ p.ver) (hl : l = 0 ∨ l ∈ p.isr) (ho : overB (nextP p l) = false) : RightP (nextP p l) := by
  have ho' := over_false ho
  rw [nextP_eq] at *
  simp only at ho'
  refine ⟨h.id, h.min, ⟨?_, ho'.1⟩, ⟨by simp; omega, ho'.2⟩, h.isr, h.reps, h.add, h.rem, h.some, h.isrIn, h.addIn, h.remIn, h.apart, h.left, hl⟩
  simp only
  split <;> omega
theorem heir_spec (p : Pt) (up : List Int) : heirP p up = 0 ∨ (heirP p up ∈ p.reps ∧ heirP p up ∈ p.isr ∧ heirP p up ∈ up ∧ heirP p up ≠ p.leader) := by
  unfold heirP headL
  cases hL : outL (inL (inL p.reps p.isr) up) [p.leader] with
  | nil => left; rfl
  | cons x r =>
    right
    have : x ∈ outL (inL (inL p.reps p.isr) up) [p.leader] := by rw [hL]; simp
    rw [mem_outL, mem_inL, mem_inL] at this
    obtain ⟨⟨⟨h1, h2⟩, h3⟩, h4⟩ := this
    exact ⟨h1, h2, h3, by simpa using h4⟩
theorem outL_one {l : List Int} {b : Int} (hd : l.Nodup) (h : 1 < l.length) : outL l [b] ≠ [] := by
  match l, hd, h with
  | x :: y :: r, hd, _ =>
    intro e
    have hx : x ∉ outL (x :: y :: r) [b] := by rw [e]; simp
    have hy : y ∉ outL (x :: y :: r) [b] := by rw [e]; simp
    rw [mem_outL] at hx hy
    simp at hx hy hd
    omega
theorem ids_outL {l m : List Int} (h : l.Nodup ∧ ∀ x ∈ l, 1 ≤ x ∧ x ≤ 7) : (outL l m).Nodup ∧ ∀ x ∈ outL l m, 1 ≤ x ∧ x ≤ 7 := ⟨nodup_outL h.1, fun x hx => h.2 x (mem_outL.1 hx).1⟩
theorem ids_inL {l m : List Int} (h : l.Nodup ∧ ∀ x ∈ l, 1 ≤ x ∧ x ≤ 7) : (inL l m).Nodup ∧ ∀ x ∈ inL l m, 1 ≤ x ∧ x ≤ 7 := ⟨nodup_inL h.1, fun x hx => h.2 x (mem_inL.1 hx).1⟩
theorem ids_nil : ([] : List Int).Nodup ∧ ∀ x ∈ ([] : List Int), 1 ≤ x ∧ x ≤ 7 := ⟨by simp, fun x hx => by cases hx⟩
theorem outL_nil (l : List Int) : outL l [] = l := outL_self fun x _ h => by cases h

/-- From one state to the next. -/
def Rules (p q : Pt) (k : Int) : Prop := RightP q ∧ (q = p ∨ (q.id = p.id ∧ q.min = p.min ∧ q.ver = p.ver + 1 ∧ ((q.leader = p.leader ∧ q.epoch = p.epoch) ∨ (q.leader ≠ p.leader ∧ q.epoch = p.epoch + 1)) ∧
  (q.leader ≠ p.leader → q.leader ≠ 0 → q.leader ∈ p.isr ∧ q.leader ∈ q.isr) ∧ (∀ x ∈ p.reps, x ∈ q.reps ∨ (k = 5 ∧ x ∈ p.add) ∨ (k = 6 ∧ ∀ y ∈ q.reps, y ∈ q.isr))))
theorem rules_next {p n : Pt} {l k : Int} (hp : RightP p) (hn : ListsP n) (e1 : n.id = p.id) (e2 : n.min = p.min) (e3 : n.ver = p.ver) (e4 : n.epoch = p.epoch) (e5 : n.leader = p.leader)
    (hl : l = 0 ∨ l ∈ n.isr) (hll : l ≠ p.leader → l ≠ 0 → l ∈ p.isr) (hr : ∀ x ∈ p.reps, x ∈ n.reps ∨ (k = 5 ∧ x ∈ p.add) ∨ (k = 6 ∧ ∀ y ∈ n.reps, y ∈ n.isr)) (ho : overB (nextP n l) = false) : Rules p (nextP n l) k := by
  refine ⟨next_right hn (by rw [e4]; exact hp.epoch.1) (by rw [e3]; exact hp.ver.1) hl ho, .inr ?_⟩
  rw [nextP_eq]
  refine ⟨e1, e2, by simp only; rw [e3], ?_, ?_, hr⟩
  · simp only
    by_cases h : l = p.leader
    · left; exact ⟨h, by rw [if_pos (by rw [e5]; exact h), e4]⟩
    · right; exact ⟨h, by rw [if_neg (by rw [e5]; exact h), e4]⟩
  · intro h1 h2
    refine ⟨hll h1 h2, ?_⟩
    rcases hl with h | h
    · exact absurd h h2
    · exact h
theorem elect_rules {p q : Pt} {l k : Int} (hp : RightP p) (h : electP p l = (q, 0)) : Rules p q k := by
  unfold electP at h
  rw [rightB_iff.2 hp] at h
  split at h
  · cases h
  split at h
  · cases h
  rename_i h2
  split at h
  · cases h; exact ⟨hp, .inl rfl⟩
  obtain ⟨rfl, ho⟩ := changed_zero h
  have hl : l = 0 ∨ l ∈ p.isr := by
    by_cases h0 : l = 0
    · exact .inl h0
    · right
      simp [h0, lackB] at h2
      exact hasB_iff.1 h2
  exact rules_next hp hp.lists rfl rfl rfl rfl rfl hl (fun _ h0 => hl.resolve_left h0) (fun x hx => .inl hx) ho
theorem back_rules {p q : Pt} {b k : Int} (hp : RightP p) (h : backP p b = (q, 0)) : Rules p q k := by
  unfold backP at h
  split at h
  · cases h
  split at h
  · cases h; exact ⟨hp, .inl rfl⟩
  rename_i h2
  obtain ⟨rfl, ho⟩ := changed_zero h
  have hb : b ∈ p.isr := by
    simp [lackB] at h2
    exact hasB_iff.1 h2.2
  exact rules_next hp hp.lists rfl rfl rfl rfl rfl (.inr hb) (fun _ _ => hb) (fun x hx => .inl hx) ho
theorem fen_sub {p : Pt} {b x : Int} (h : x ∈ fenIsr p b) : x ∈ p.isr := by
  unfold fenIsr at h
  split at h
  · exact (mem_outL.1 h).1
  · exact h
theorem fen_lists {p : Pt} {b : Int} (hp : RightP p) : ListsP (fenP p b) := by
  refine ⟨hp.id, hp.min, ?_, hp.reps, hp.add, hp.rem, ?_, fun x hx => hp.isrIn x (fen_sub hx), hp.addIn, hp.remIn, hp.apart, hp.left⟩
  · show (fenIsr p b).Nodup ∧ ∀ x ∈ fenIsr p b, 1 ≤ x ∧ x ≤ 7
    unfold fenIsr
    split
    · exact ids_outL hp.isr
    · exact hp.isr
  · show fenIsr p b ≠ []
    unfold fenIsr
    split
    · rename_i h; exact outL_one hp.isr.1 h
    · exact hp.some
theorem fen_keep {p : Pt} {b x : Int} (hx : x ∈ p.isr) (hne : x ≠ b) : x ∈ fenIsr p b := by
  unfold fenIsr
  split
  · exact mem_outL.2 ⟨hx, by simpa using hne⟩
  · exact hx
theorem fen_full {p : Pt} {b : Int} (h : (fenIsr p b).length = p.isr.length) : fenIsr p b = p.isr := by
  unfold fenIsr at *
  split
  · rename_i hc; rw [if_pos hc] at h; exact outL_full h
  · rfl
theorem fenL_spec {p : Pt} {b : Int} (up : List Int) (hp : RightP p) : fenL p b up = 0 ∨ fenL p b up ∈ fenIsr p b := by
  unfold fenL
  split
  · rcases heir_spec (fenP p b) up with h | ⟨_, h, _⟩
    · exact .inl h
    · exact .inr h
  · rename_i hne
    rcases hp.lead with h | h
    · exact .inl h
    · exact .inr (fen_keep h hne)
theorem fence_rules {p q : Pt} {b k : Int} {up : List Int} (hp : RightP p) (h : fenceP p b up = (q, 0)) : Rules p q k := by
  unfold fenceP at h
  split at h
  · cases h
  split at h
  · rename_i h2
    cases h
    have e : fenP p b = p := by unfold fenP; rw [fen_full h2.2]
    rw [e]
    exact ⟨hp, .inl rfl⟩
  obtain ⟨rfl, ho⟩ := changed_zero h
  have hl := fenL_spec (b := b) up hp
  exact rules_next hp (fen_lists hp) rfl rfl rfl rfl rfl hl (fun _ h0 => fen_sub (hl.resolve_left h0)) (fun x hx => .inl hx) ho
theorem alter_rules {p q : Pt} {l e v k : Int} {isr up : List Int} (hp : RightP p) (h : alterP p l e v isr up = (q, 0)) : Rules p q k := by
  unfold alterP at h
  split at h
  · cases h
  split at h
  · rename_i h2; exact absurd (congrArg Prod.snd h) h2
  split at h
  · cases h
  rename_i h3
  split at h
  · cases h
  rename_i h4
  obtain ⟨rfl, ho⟩ := changed_zero h
  have hs : syncB p isr up = true := by simpa using h4
  unfold syncB at hs
  simp only [Bool.and_eq_true] at hs
  have h0 : l ≠ 0 := fun e => h3 (.inl e)
  have h5 : l = p.leader := Decidable.byContradiction fun e => h3 (.inr e)
  have hli : l ∈ p.isr := by rw [h5]; exact hp.lead.resolve_left (by rw [← h5]; exact h0)
  have hln : l ∈ inL p.reps isr := mem_inL.2 ⟨hp.isrIn l hli, by rw [h5]; exact hasB_iff.1 hs.1.1.2⟩
  have hL : ListsP { p with isr := inL p.reps isr } := ⟨hp.id, hp.min, ids_inL hp.reps, hp.reps, hp.add, hp.rem, (fun e => by have := hln; simp only at e; rw [e] at this; cases this), fun x hx => (mem_inL.1 hx).1, hp.addIn, hp.remIn, hp.apart, hp.left⟩
  exact rules_next hp hL rfl rfl rfl rfl rfl (.inr hln) (fun hne _ => absurd h5 hne) (fun x hx => .inl hx) ho
theorem may_spec {t : List Int} (h : mayB t = true) : t ≠ [] ∧ t.length ≤ 5 ∧ (t.Nodup ∧ ∀ x ∈ t, 1 ≤ x ∧ x ≤ 7) := by
  unfold mayB at h
  simp only [Bool.and_eq_true] at h
  have h1 := upB_iff.1 h.1
  refine ⟨fun e => by rw [e] at h1; simp at h1, by omega, idsB_iff.1 h.2⟩
theorem beg_lists {p : Pt} {t : List Int} (hp : RightP p) (ht : t ≠ [] ∧ t.length ≤ 5 ∧ (t.Nodup ∧ ∀ x ∈ t, 1 ≤ x ∧ x ≤ 7)) : ListsP (begP p t) := by
  have hin : ∀ x, x ∈ t ++ outL p.reps t ↔ x ∈ t ∨ x ∈ p.reps := fun x => by
    rw [List.mem_append, mem_outL]
    by_cases hx : x ∈ t <;> simp [hx]
  have hidr := ids_outL (m := t) hp.reps
  refine ⟨hp.id, hp.min, hp.isr, ⟨?_, fun x hx => ?_⟩, ids_outL ht.2.2, hidr, hp.some, fun x hx => (hin x).2 (.inr (hp.isrIn x hx)), fun x hx => (hin x).2 (.inl (mem_outL.1 hx).1), fun x hx => (hin x).2 (.inr (mem_outL.1 hx).1), fun x hx hy => (mem_outL.1 hx).2 (mem_outL.1 hy).1, ?_⟩
  · show (t ++ outL p.reps t).Nodup
    exact List.nodup_append.2 ⟨ht.2.2.1, hidr.1, fun a ha b hb e => by subst e; exact (mem_outL.1 hb).2 ha⟩
  · rcases List.mem_append.1 hx with h | h
    · exact ht.2.2.2 x h
    · exact hidr.2 x h
  · show outL (t ++ outL p.reps t) (outL p.reps t) ≠ []
    intro e
    cases t with
    | nil => exact ht.1 rfl
    | cons y r =>
      have : y ∈ outL ((y :: r) ++ outL p.reps (y :: r)) (outL p.reps (y :: r)) := mem_outL.2 ⟨by simp, fun h => (mem_outL.1 h).2 (by simp)⟩
      rw [e] at this
      cases this
theorem begin_cases {p : Pt} {t up : List Int} {q : Pt} (h : beginP p t up = (q, 0)) : (t ≠ [] ∧ t.length ≤ 5 ∧ (t.Nodup ∧ ∀ x ∈ t, 1 ≤ x ∧ x ≤ 7)) ∧ movingB p = false ∧ (∀ x ∈ outL t p.reps, x ∈ up) ∧ ((p.reps = t ∧ q = p) ∨ (p.reps ≠ t ∧ q = nextP (begP p t) p.leader ∧ overB (nextP (begP p t) p.leader) = false)) := by
  unfold beginP at h
  split at h
  · cases h
  rename_i h1
  split at h
  · cases h
  rename_i h2
  split at h
  · cases h
  rename_i h3
  have hm : mayB t = true := by simp at h1; exact h1.2
  refine ⟨may_spec hm, by simpa using h2, fun x hx => ?_, ?_⟩
  · have : (outL t p.reps).all (hasB up) = true := by simpa using h3
    exact hasB_iff.1 (List.all_eq_true.1 this x hx)
  · split at h
    · rename_i h4; cases h; exact .inl ⟨h4, rfl⟩
    · rename_i h4; obtain ⟨rfl, ho⟩ := changed_zero h; exact .inr ⟨h4, rfl, ho⟩
theorem begin_rules {p q : Pt} {t up : List Int} {k : Int} (hp : RightP p) (h : beginP p t up = (q, 0)) : Rules p q k := by
  obtain ⟨ht, _, _, hc⟩ := begin_cases h
  rcases hc with ⟨_, rfl⟩ | ⟨_, rfl, ho⟩
  · exact ⟨hp, .inl rfl⟩
  · refine rules_next hp (beg_lists hp ht) rfl rfl rfl rfl rfl hp.lead (fun hne => absurd rfl hne) (fun x hx => .inl ?_) ho
    show x ∈ t ++ outL p.reps t
    rw [List.mem_append, mem_outL]
    by_cases hxt : x ∈ t <;> simp [hxt, hx]
theorem setL_spec {p : Pt} {g : List Int} (up : List Int) (hp : RightP p) : setL p g up = 0 ∨ setL p g up ∈ outL p.isr g := by
  unfold setL
  split
  · rcases heir_spec (setP p g) up with h | ⟨_, h, _⟩
    · exact .inl h
    · exact .inr h
  · rename_i hne
    rcases hp.lead with h | h
    · exact .inl h
    · exact .inr (mem_outL.2 ⟨h, fun e => hne (hasB_iff.2 e)⟩)
theorem set_lists {p : Pt} {g : List Int} (hp : RightP p) (hs : outL p.isr g ≠ []) : ListsP (setP p g) := by
  refine ⟨hp.id, hp.min, ids_outL hp.isr, ids_outL hp.reps, ids_nil, ids_nil, hs, fun x hx => mem_outL.2 ⟨hp.isrIn x (mem_outL.1 hx).1, (mem_outL.1 hx).2⟩, fun x hx => (by cases hx), fun x hx => (by cases hx), fun x hx => (by cases hx), ?_⟩
  show outL (outL p.reps g) [] ≠ []
  rw [outL_nil]
  intro e
  cases hL : outL p.isr g with
  | nil => exact hs hL
  | cons x r =>
    have hx : x ∈ outL p.isr g := by rw [hL]; simp
    have : x ∈ outL p.reps g := mem_outL.2 ⟨hp.isrIn x (mem_outL.1 hx).1, (mem_outL.1 hx).2⟩
    rw [e] at this
    cases this
theorem finish_cases {p q : Pt} {up : List Int} (h : finishP p up = (q, 0)) : movingB p = true ∧ (∀ x ∈ targetsP p, x ∈ p.isr) ∧ q = nextP (setP p p.rem) (setL p p.rem up) ∧ overB (nextP (setP p p.rem) (setL p p.rem up)) = false := by
  unfold finishP at h
  split at h
  · cases h
  split at h
  · cases h
  rename_i h2
  simp only [Bool.or_eq_true, Bool.not_eq_true', not_or] at h2
  obtain ⟨rfl, ho⟩ := changed_zero h
  refine ⟨by simpa using h2.1, fun x hx => ?_, rfl, ho⟩
  have : (targetsP p).all (hasB p.isr) = true := by simpa using h2.2
  exact hasB_iff.1 (List.all_eq_true.1 this x hx)
theorem finish_rules {p q : Pt} {up : List Int} (hp : RightP p) (h : finishP p up = (q, 0)) : Rules p q 6 := by
  obtain ⟨_, h2, rfl, ho⟩ := finish_cases h
  have hs : outL p.isr p.rem ≠ [] := by
    intro e
    cases hL : outL p.reps p.rem with
    | nil => exact hp.left hL
    | cons x r =>
      have hx : x ∈ outL p.reps p.rem := by rw [hL]; simp
      have : x ∈ outL p.isr p.rem := mem_outL.2 ⟨h2 x hx, (mem_outL.1 hx).2⟩
      rw [e] at this
      cases this
  have hl := setL_spec (g := p.rem) up hp
  refine rules_next hp (set_lists hp hs) rfl rfl rfl rfl rfl hl (fun _ h0 => (mem_outL.1 (hl.resolve_left h0)).1) (fun x hx => .inr (.inr ⟨rfl, fun y hy => ?_⟩)) ho
  exact mem_outL.2 ⟨h2 y hy, (mem_outL.1 hy).2⟩
theorem cancel_cases {p q : Pt} {up : List Int} (h : cancelP p up = (q, 0)) : movingB p = true ∧ ¬ (∀ x ∈ p.isr, x ∈ p.add) ∧ q = nextP (setP p p.add) (setL p p.add up) ∧ overB (nextP (setP p p.add) (setL p p.add up)) = false := by
  unfold cancelP at h
  split at h
  · cases h
  split at h
  · cases h
  rename_i h2
  simp only [Bool.or_eq_true, Bool.not_eq_true', not_or] at h2
  obtain ⟨rfl, ho⟩ := changed_zero h
  refine ⟨by simpa using h2.1, fun hx => h2.2 (List.all_eq_true.2 fun x hxx => hasB_iff.2 (hx x hxx)), rfl, ho⟩
theorem cancel_rules {p q : Pt} {up : List Int} (hp : RightP p) (h : cancelP p up = (q, 0)) : Rules p q 5 := by
  obtain ⟨_, h2, rfl, ho⟩ := cancel_cases h
  have hs : outL p.isr p.add ≠ [] := fun e => h2 fun x hx => Decidable.byContradiction fun hn => by
    have : x ∈ outL p.isr p.add := mem_outL.2 ⟨hx, hn⟩
    rw [e] at this
    cases this
  have hl := setL_spec (g := p.add) up hp
  refine rules_next hp (set_lists hp hs) rfl rfl rfl rfl rfl hl (fun _ h0 => (mem_outL.1 (hl.resolve_left h0)).1) (fun x hx => ?_) ho
  by_cases hxa : x ∈ p.add
  · exact .inr (.inl ⟨rfl, hxa⟩)
  · exact .inl (mem_outL.2 ⟨hx, hxa⟩)
/-- What is refused is nothing. -/
theorem changed_err {p q : Pt} {l e : Int} (h : changedP p l = (q, e)) (he : e ≠ 0) : q = Pt.zero := by
  rcases changed_cases p l with h1 | h1 <;> rw [h1] at h <;> cases h
  · rfl
  · exact absurd rfl he
end Go.Proofs.YtcffomhcmilcpaaGreat
