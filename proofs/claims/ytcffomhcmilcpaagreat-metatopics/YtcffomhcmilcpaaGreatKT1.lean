/- The topics' names in their order: what MetaTopics asks of them. -/
import Derived.Test.YtcffomhcmilcpaaGreatKT0
import Derived.Test.YtcffomhcmilcpaaGreatKA40
import Derived.Test.YtcffomhcmilcpaaGreatK28
namespace Go.Proofs.YtcffomhcmilcpaaGreat
open Go.Sort
set_option linter.unusedSimpArgs false
set_option linter.unusedVariables false

@[reducible] def baOf (l : List UInt8) : ByteArray := ⟨l.toArray⟩
theorem baOf_name (s : ByteArray) : baOf s.data.toList = s := by cases s; simp
theorem less_not : ∀ (a b : List UInt8), Op.bytesLess a b = true → ¬ b ≤ a
  | [], [], h => by simp [Op.bytesLess] at h
  | x :: r, [], h => by simp [Op.bytesLess] at h
  | [], y :: s, _ => by simp
  | x :: r, y :: s, h => by
    simp only [Op.bytesLess, Bool.or_eq_true, Bool.and_eq_true, decide_eq_true_eq, beq_iff_eq] at h
    rw [List.cons_le_cons_iff]
    rcases h with h | ⟨h1, h2⟩
    · rintro (h3 | ⟨h3, _⟩)
      · exact absurd (UInt8.lt_trans h h3) (UInt8.lt_irrefl _)
      · subst h3; exact absurd h (UInt8.lt_irrefl _)
    · subst h1
      rintro (h3 | ⟨_, h3⟩)
      · exact absurd h3 (UInt8.lt_irrefl _)
      · exact less_not r s h2 h3
theorem srt_len (T : List Tp) : (srtL T).length = T.length := by simp [srtL, nmL]
theorem srt_perm (T : List Tp) : (srtL T).Perm (nmL T) := List.mergeSort_perm _ _
theorem nm_nodup {T : List Tp} (h : T.Pairwise (fun s t => sameN s.name t.name = false)) : (nmL T).Nodup := by
  unfold nmL
  rw [List.Nodup, List.pairwise_map]
  refine h.imp ?_
  intro s t hst e
  have e2 : s.name = t.name := by rw [← baOf_name s.name, ← baOf_name t.name, e]
  rw [e2, sameN_self] at hst
  cases hst
theorem srt_rise {T : List Tp} (h : T.Pairwise (fun s t => sameN s.name t.name = false)) {i j : Nat} (hij : i < j) (hj : j < (srtL T).length) : Op.bytesLess (srtL T)[j] (srtL T)[i] = false ∧ ((srtL T)[j] == (srtL T)[i]) = false := by
  have h1 : (srtL T).Pairwise (fun a b => decide (a ≤ b) = true) := List.pairwise_mergeSort (fun a b c h1 h2 => by
    simp only [decide_eq_true_eq] at h1 h2 ⊢
    exact List.le_trans h1 h2) (fun a b => by
    have := List.le_total a b
    simpa using this) _
  have h2 : (srtL T).Nodup := (srt_perm T).nodup_iff.2 (nm_nodup h)
  have a1 := List.pairwise_iff_getElem.1 h1 i j (by omega) hj hij
  have a2 := List.pairwise_iff_getElem.1 h2 i j (by omega) hj hij
  constructor
  · cases e : Op.bytesLess (srtL T)[j] (srtL T)[i]
    · rfl
    · exact absurd (of_decide_eq_true a1) (less_not _ _ e)
  · rw [beq_eq_false_iff_ne]
    exact fun e => a2 e.symm
theorem srt_has {T : List Tp} {k : Nat} (hk : k < (srtL T).length) : hasT T (baOf (srtL T)[k]) = true := by
  have : (srtL T)[k] ∈ nmL T := (srt_perm T).mem_iff.1 (List.getElem_mem hk)
  obtain ⟨t, ht, e⟩ := List.mem_map.1 this
  rw [← e, baOf_name]
  exact List.any_eq_true.2 ⟨t, ht, sameN_self _⟩
/-- How many partitions the first k names have. -/
def sumN (T : List Tp) (k : Nat) : Nat := (((srtL T).take k).map fun x => (cntT T (baOf x)).toNat).sum
theorem sumN_succ {T : List Tp} {k : Nat} (hk : k < (srtL T).length) : sumN T (k + 1) = sumN T k + (cntT T (baOf (srtL T)[k])).toNat := by
  unfold sumN
  rw [List.take_succ_eq_append_getElem hk, List.map_append, List.sum_append]
  simp only [List.map_cons, List.map_nil, List.sum_cons, List.sum_nil, Nat.add_zero]
theorem sumN_find {T : List Tp} (h : T.Pairwise (fun s t => sameN s.name t.name = false)) {k : Nat} (hk : k < (srtL T).length) {t : Tp} (ht : t ∈ T) (hs : sameN t.name (baOf (srtL T)[k]) = true) : sumN T k + (idsT t).length = sumN T (k + 1) := by
  rw [sumN_succ hk, ← sameN_iff.1 hs, cnt_of h ht]
  simp [idsT]
theorem sum_toNat : ∀ (l : List Tp), (∀ t ∈ l, 1 ≤ t.count) → (((l.map fun t => t.count.toNat).sum : Nat) : Int) = sumT l
  | [], _ => rfl
  | t :: r, h => by
    have h1 := h t (by simp)
    have h2 := sum_toNat r (fun x hx => h x (by simp [hx]))
    simp only [List.map_cons, List.sum_cons, sumT]
    push_cast
    omega
theorem sumN_all {T : List Tp} (h : T.Pairwise (fun s t => sameN s.name t.name = false)) (hc : ∀ t ∈ T, 1 ≤ t.count) : (sumN T T.length : Int) = sumT T := by
  rw [← sum_toNat T hc]
  unfold sumN
  rw [← srt_len T, List.take_length]
  have h1 := ((srt_perm T).map (fun x => (cntT T (baOf x)).toNat)).sum_nat
  rw [h1]
  unfold nmL
  rw [List.map_map]
  congr 2
  refine List.map_congr_left fun t ht => ?_
  simp only [Function.comp]
  rw [baOf_name, cnt_of h ht]
theorem sumN_le {T : List Tp} (h : T.Pairwise (fun s t => sameN s.name t.name = false)) (hc : ∀ t ∈ T, 1 ≤ t.count) {k : Nat} (hk : k ≤ T.length) : sumN T k ≤ sumN T T.length := by
  have mono : ∀ d k, k + d = T.length → sumN T k ≤ sumN T T.length := by
    intro d
    induction d with
    | zero => intro k hk; rw [← hk]; exact Nat.le_refl _
    | succ d ih =>
      intro k hk
      have h1 := ih (k + 1) (by omega)
      have h2 := sumN_succ (T := T) (k := k) (by rw [srt_len]; omega)
      omega
  exact mono (T.length - k) k (by omega)
/-- Each record counts. -/
theorem applied_do (I : Im) (r : Rc) : (doI I r).1.applied = I.applied := by
  unfold doI
  split
  · unfold registerI
    split
    · rfl
    · split
      · rfl
      · show (if _ then putOffI I r.a else I).applied = _
        split <;> rfl
  · split
    · unfold fenceI
      split <;> rfl
    · split
      · unfold unfenceI
        split <;> rfl
      · split
        · unfold topicI
          split
          · rfl
          · split
            · rfl
            · split <;> rfl
        · split
          · unfold turnI
            split <;> rfl
          · split
            · unfold pidI
              split
              · rfl
              · split
                · rfl
                · split
                  · split <;> rfl
                  · split <;> rfl
            · rfl
theorem applied_apply (I : Im) (r : Rc) : (applyI I r).1.applied = I.applied + 1 := applied_do _ _
/-- What MetaTopics sees of a partition. -/
theorem part_facts {n : Nat} {I : Im} (ho : ImOk I) (hk : TopK (n : Int) I) {i : Nat} (hi : i < I.parts.length) : I.parts[i].id = (i : Int) + 1 ∧ 0 < I.parts[i].reps.length ∧ (∀ h : 0 < I.parts[i].reps.length, I.parts[i].leader = I.parts[i].reps[0]) ∧ I.parts[i].reps.length ≤ n ∧ I.parts[i].reps.Nodup ∧ ∀ x ∈ I.parts[i].reps, 1 ≤ x ∧ x ≤ (n : Int) := by
  obtain ⟨h1, h2⟩ := ho.parts i _ (List.getElem?_eq_getElem hi)
  have hm : I.parts[i] ∈ I.parts := List.getElem_mem hi
  have hr := hk.reps _ hm
  have h0 : 0 < I.parts[i].reps.length := by
    obtain ⟨x, hx⟩ := List.exists_mem_of_ne_nil _ h1.some
    exact List.length_pos_of_mem (h1.isrIn x hx)
  exact ⟨h2, h0, fun h => by rw [hk.lead _ hm]; exact headL_get h, few_len n _ h1.reps.1 hr, h1.reps.1, hr⟩
theorem take_lacks {l : List Int} (h : l.Nodup) {k : Nat} (hk : k < l.length) : hasB (l.take k) l[k] = false := by
  cases e : hasB (l.take k) l[k]
  · rfl
  · have : l[k] ∈ l.take k := by simpa [hasB] using e
    obtain ⟨j, hj, e2⟩ := List.mem_take_iff_getElem.1 this
    exact absurd e2 (List.pairwise_iff_getElem.1 h j k (by omega) hk (by omega))
end Go.Proofs.YtcffomhcmilcpaaGreat

