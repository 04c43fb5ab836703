/- Topics and partitions without memory: what MetaTopics says of an image. -/
import Derived.Test.YtcffomhcmilcpaaGreatK28
namespace Go.Proofs.YtcffomhcmilcpaaGreat
set_option linter.unusedSimpArgs false
set_option linter.unusedVariables false

/-- What an image keeps to whose records registered and let up the brokers 1 to n, and made topics. -/
structure TopK (n : Int) (I : Im) : Prop where
  up : ∀ x ∈ upL I.brs, 1 ≤ x ∧ x ≤ n
  lead : ∀ p ∈ I.parts, p.leader = headL p.reps
  reps : ∀ p ∈ I.parts, ∀ x ∈ p.reps, 1 ≤ x ∧ x ≤ n
  names : I.tops.Pairwise (fun s t => sameN s.name t.name = false)
theorem TopK.new (n : Int) : TopK n Im.new := ⟨fun x hx => by simp [Im.new, upL] at hx, fun p hp => by simp [Im.new] at hp, fun p hp => by simp [Im.new] at hp, by simp [Im.new]⟩
theorem upL_put {bs : BM} {m : Int} {b : Br} {x : Int} (h : x ∈ upL (putB bs m b)) : x = m ∨ x ∈ upL bs := by
  unfold upL at h ⊢
  obtain ⟨p, hp, rfl⟩ := List.mem_map.1 h
  obtain ⟨h1, h2⟩ := List.mem_filter.1 hp
  rcases (mem_putB _ _ _ _).1 h1 with rfl | ⟨h3, _⟩
  · exact .inl rfl
  · exact .inr (List.mem_map.2 ⟨p, List.mem_filter.2 ⟨h3, h2⟩, rfl⟩)
/-- Nothing is there but brokers. -/
def Bare (n : Int) (I : Im) : Prop := TopK n I ∧ I.parts = [] ∧ I.tops = []
theorem Bare.new (n : Int) : Bare n Im.new := ⟨TopK.new n, rfl, rfl⟩
theorem bare_put {n : Int} {I : Im} (h : Bare n I) {m : Int} (hm : 1 ≤ m ∧ m ≤ n) (b : Br) (f : Pt → Pt) : Bare n { I with brs := putB I.brs m b, parts := I.parts.map f } := by
  obtain ⟨h1, h2, h3⟩ := h
  refine ⟨⟨fun x hx => ?_, ?_, ?_, ?_⟩, by simp [h2], h3⟩
  · rcases upL_put hx with rfl | hx
    · exact hm
    · exact h1.up x hx
  · intro p hp; simp [h2] at hp
  · intro p hp; simp [h2] at hp
  · exact h1.names
theorem bare_apply {n : Int} {I : Im} (h : Bare n I) {r : Rc} (hk : r.kind = 1 ∨ r.kind = 3) (hm : 1 ≤ r.a ∧ r.a ≤ n) : Bare n (applyI I r).1 := by
  have h0 : Bare n (nextI I) := ⟨⟨h.1.up, h.1.lead, h.1.reps, h.1.names⟩, h.2.1, h.2.2⟩
  unfold applyI doI
  generalize nextI I = J at h0 ⊢
  rcases hk with e | e
  · rw [if_pos e]
    unfold registerI
    split
    · exact h0
    · split
      · exact h0
      · have key : ∀ K : Im, Bare n K → Bare n { K with brs := putB K.brs r.a ⟨r.b, false⟩ } := fun K hK => by
          have := bare_put hK hm ⟨r.b, false⟩ id
          simpa using this
        refine key _ ?_
        split
        · unfold putOffI
          exact bare_put h0 hm _ _
        · exact h0
  · rw [if_neg (by omega), if_neg (by omega), if_pos e]
    unfold unfenceI
    split
    · exact h0
    · exact bare_put h0 hm _ _
theorem hasT_false {l : List Tp} {s : ByteArray} (h : hasT l s = false) : ∀ t ∈ l, sameN t.name s = false := by
  unfold hasT at h
  intro t ht
  cases e : sameN t.name s
  · rfl
  · have h2 : (l.any fun t => sameN t.name s) = true := List.any_eq_true.2 ⟨t, ht, e⟩
    rw [h2] at h
    cases h
theorem topk_topic {n : Int} {I : Im} (h : TopK n I) {r : Rc} (hk : r.kind = 4) : TopK n (applyI I r).1 := by
  have h0 : TopK n (nextI I) := ⟨h.up, h.lead, h.reps, h.names⟩
  unfold applyI doI
  generalize nextI I = J at h0 ⊢
  rw [if_neg (by omega), if_neg (by omega), if_neg (by omega), if_pos hk]
  unfold topicI
  split
  · exact h0
  · rename_i hb
    split
    · exact h0
    · rename_i ht
      split
      · exact h0
      · rename_i hf
        have hbu : upB r.b 5 = true := by
          simp only [Bool.or_eq_true, Bool.not_eq_true', not_or, Bool.not_eq_false] at hb
          exact hb.1.2
        have h1 := upB_iff.1 hbu
        have hl : 0 < (upL J.brs).length := by omega
        refine ⟨h0.up, fun p hp => ?_, fun p hp x hx => ?_, ?_⟩
        · rcases List.mem_append.1 hp with hp | hp
          · exact h0.lead p hp
          · obtain ⟨i, _, rfl⟩ := List.mem_map.1 hp
            rfl
        · rcases List.mem_append.1 hp with hp | hp
          · exact h0.reps p hp x hx
          · obtain ⟨i, _, rfl⟩ := List.mem_map.1 hp
            exact h0.up x (roundL_mem hl hx)
        · refine List.pairwise_append.2 ⟨h0.names, by simp, fun s hs t ht2 => ?_⟩
          simp at ht2
          subst ht2
          exact hasT_false (by simpa using ht) s hs
/-- How many of a name: the topic's count. -/
def cntT (l : List Tp) (s : ByteArray) : Int := match l.find? (fun t => sameN t.name s) with | some t => t.count | none => 0
theorem sameN_iff {s t : ByteArray} : sameN s t = true ↔ s = t := by
  unfold sameN
  constructor
  · intro h
    have h1 := beq_iff_eq.1 h
    rw [ByteArray.toList_eq, ByteArray.toList_eq] at h1
    obtain ⟨s⟩ := s
    obtain ⟨t⟩ := t
    have h2 : s.toList = t.toList := h1
    rw [Array.toList_inj.1 h2]
  · rintro rfl; simp
theorem sameN_self (s : ByteArray) : sameN s s = true := sameN_iff.2 rfl
theorem cnt_of {l : List Tp} (h : l.Pairwise (fun s t => sameN s.name t.name = false)) {t : Tp} (ht : t ∈ l) : cntT l t.name = t.count := by
  unfold cntT
  induction l with
  | nil => cases ht
  | cons y r ih =>
    obtain ⟨h1, h2⟩ := List.pairwise_cons.1 h
    rcases List.mem_cons.1 ht with rfl | ht
    · simp [List.find?_cons, sameN_self]
    · rw [List.find?_cons, h1 t ht]
      exact ih h2 ht
theorem sum_cnt : ∀ (l : List Tp), (l.map (·.count)).sum = sumT l
  | [] => rfl
  | t :: r => by simp [sumT, sum_cnt r]
theorem sum_names {l : List Tp} (h : l.Pairwise (fun s t => sameN s.name t.name = false)) : ((l.map (·.name)).map (cntT l)).sum = sumT l := by
  rw [← sum_cnt, List.map_map]
  congr 1
  refine List.map_congr_left fun t ht => ?_
  exact cnt_of h ht
theorem headL_get {l : List Int} (h : 0 < l.length) : headL l = l[0] := by cases l with
  | nil => simp at h
  | cons a r => rfl
end Go.Proofs.YtcffomhcmilcpaaGreat

