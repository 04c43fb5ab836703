/- Any record leaves an image that may be loaded. -/
import Derived.Test.YtcffomhcmilcpaaGreatKB11
import Derived.Test.YtcffomhcmilcpaaGreatL0
namespace Go.Proofs.YtcffomhcmilcpaaGreat
set_option linter.unusedSimpArgs false
set_option linter.unusedVariables false

/-- Topics one behind the other, with names of their own. -/
def TN (I : Im) : Prop := TpOk I.tops ∧ nxT I.tops = (I.parts.length : Int) + 1
theorem TN.new : TN Im.new := ⟨⟨fun t ht => by simp [Im.new] at ht, fun k h => by simp [Im.new] at h, fun k h => by simp [Im.new] at h⟩, by simp [Im.new, nxT]⟩
theorem tn_same {I J : Im} (h : TN I) (ht : J.tops = I.tops) (hp : J.parts.length = I.parts.length) : TN J := by
  unfold TN
  rw [ht, hp]
  exact h
theorem tpok_push {ts : List Tp} (h : TpOk ts) {t : Tp} (h1 : nameB t.name = true) (h2 : hasT ts t.name = false) (h3 : t.first = nxT ts) : TpOk (ts ++ [t]) := by
  have old : ∀ (k : Nat) (hk : k < (ts ++ [t]).length), k < ts.length ∨ k = ts.length := fun k hk => by simp at hk; omega
  refine ⟨fun x hx => ?_, fun k hk => ?_, fun k hk => ?_⟩
  · rcases List.mem_append.1 hx with hx | hx
    · exact h.name x hx
    · simp at hx; subst hx; exact h1
  · rcases old k hk with e | e
    · rw [List.take_append_of_le_length (by omega), List.getElem_append_left e]
      exact h.apart k e
    · subst e
      simp [h2]
  · rcases old k hk with e | e
    · rw [List.take_append_of_le_length (by omega), List.getElem_append_left e]
      exact h.chain k e
    · subst e
      simp [h3]
theorem nx_push (ts : List Tp) (t : Tp) : nxT (ts ++ [t]) = t.first + t.count := by unfold nxT; simp
theorem tn_apply {I : Im} (h : TN I) (r : Rc) : TN (applyI I r).1 := by
  have h0 : TN (nextI I) := tn_same h rfl rfl
  unfold applyI
  generalize nextI I = K at h0 ⊢
  unfold doI
  split
  · unfold registerI
    split
    · exact h0
    · split
      · exact h0
      · refine tn_same h0 ?_ ?_
        · show (if _ then putOffI K r.a else K).tops = _
          split <;> rfl
        · show (if _ then putOffI K r.a else K).parts.length = _
          split
          · simp [putOffI]
          · rfl
  · split
    · unfold fenceI
      split
      · exact h0
      · exact tn_same h0 rfl (by simp [putOffI])
    · split
      · unfold unfenceI
        split
        · exact h0
        · exact tn_same h0 rfl (by simp)
      · split
        · unfold topicI
          split
          · exact h0
          · rename_i hc
            split
            · exact h0
            · rename_i ht
              split
              · exact h0
              · simp only [Bool.or_eq_true, Bool.not_eq_true', not_or, Bool.not_eq_false] at hc
                have ha := upB_iff.1 hc.1.1.2
                refine ⟨tpok_push h0.1 hc.1.1.1 (by simpa using ht) h0.2.symm, ?_⟩
                show nxT (K.tops ++ [_]) = ((K.parts ++ _).length : Int) + 1
                rw [nx_push, List.length_append, moreP_len]
                push_cast
                omega
        · split
          · unfold turnI
            split
            · exact h0
            · refine tn_same h0 rfl ?_
              show (takeI _ _).length = _
              unfold takeI
              split <;> simp
          · split
            · unfold pidI
              split
              · exact h0
              · split
                · exact h0
                · split
                  · split <;> exact h0
                  · split <;> exact h0
            · exact h0
end Go.Proofs.YtcffomhcmilcpaaGreat

