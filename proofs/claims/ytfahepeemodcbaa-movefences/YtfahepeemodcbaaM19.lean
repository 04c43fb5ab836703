/- Fences one by one, without memory. -/
import Derived.Test.YtfahepeemodcbaaM10c
namespace Go.Proofs.Ytfahepeemodcbaa
set_option linter.unusedSimpArgs false
set_option linter.unusedVariables false

/-- Some are up, the others were fenced. -/
structure FI (p : Pt) (U : List Int) : Prop where
  right : RightP p
  ver : p.ver + U.length ≤ 999999907
  epoch : p.epoch + U.length ≤ 999999907
  nod : U.Nodup
  ids : ∀ x ∈ U, 1 ≤ x ∧ x ≤ 7
  lead : p.leader = 0 ∨ p.leader ∈ U
  gone : ∀ x ∈ p.isr, x ∉ U → p.isr = [x]
theorem fi_start {p : Pt} (h : RightP p) (hv : p.ver ≤ 999999900) (he : p.epoch ≤ 999999900) : FI p upAll := by
  refine ⟨h, by show p.ver + ((7 : Nat) : Int) ≤ _; omega, by show p.epoch + ((7 : Nat) : Int) ≤ _; omega, by decide, fun x hx => ?_, ?_, fun x hx hn => absurd (upAll_iff (h.isr.2 x hx)) hn⟩
  · have : ∀ x ∈ upAll, 1 ≤ x ∧ x ≤ 7 := by decide
    exact this x hx
  · rcases h.lead with h0 | h0
    · exact .inl h0
    · exact .inr (upAll_iff (h.isr.2 _ h0))
theorem fi_step {p : Pt} {U V : List Int} {b : Int} (h : FI p U) (hb : b ∈ U) (hV : ∀ x, x ∈ V ↔ (x ∈ U ∧ x ≠ b)) (hl : V.length + 1 = U.length) (hnd : V.Nodup) :
    ∃ q, fenceP p b V = (q, 0) ∧ FI q V ∧ q.leader ≠ b ∧ (b ∈ q.isr → q.isr.length ≤ 1) := by
  have hid := h.ids b hb
  have hub : upB b 7 = true := upB_iff.2 hid
  have hbV : b ∉ V := fun e => ((hV b).1 e).2 rfl
  have hL := fenL_spec (b := b) V h.right
  have hlead : fenL p b V = 0 ∨ fenL p b V ∈ V := by
    unfold fenL
    split
    · rcases heir_spec (fenP p b) V with e | ⟨_, _, e, _⟩
      · exact .inl e
      · exact .inr e
    · rename_i hne
      rcases h.lead with e | e
      · exact .inl e
      · exact .inr ((hV _).2 ⟨e, hne⟩)
  have hbis : b ∈ fenIsr p b → (fenIsr p b).length ≤ 1 := by
    intro hm
    unfold fenIsr at *
    split at hm
    · exact absurd (List.mem_singleton.2 rfl) (mem_outL.1 hm).2
    · rename_i hc; rw [if_neg hc]; omega
  have hgone : ∀ x ∈ fenIsr p b, x ∉ V → fenIsr p b = [x] := by
    intro x hx hxV
    by_cases e : x = b
    · subst e
      have h1 := hbis hx
      cases hf : fenIsr p x with
      | nil => rw [hf] at hx; cases hx
      | cons y r =>
        rw [hf] at hx h1
        have : r = [] := List.eq_nil_of_length_eq_zero (by simp at h1; simpa using h1)
        subst this
        simp at hx
        rw [hx]
    · have hxU : x ∉ U := fun hn => hxV ((hV x).2 ⟨hn, e⟩)
      have h1 := h.gone x (fen_sub hx) hxU
      unfold fenIsr
      rw [h1]
      simp
  have hver := h.ver
  have hepo := h.epoch
  have hfl := fen_lists (b := b) h.right
  have hfe : fenceP p b V = if fenL p b V = p.leader ∧ (fenIsr p b).length = p.isr.length then (fenP p b, 0) else changedP (fenP p b) (fenL p b V) := by
    unfold fenceP
    rw [rightB_iff.2 h.right, hub]
    simp
  have hU1 : (1 : Int) ≤ U.length := by omega
  have hE : (if fenL p b V = p.leader then p.epoch else p.epoch + 1) ≤ p.epoch + 1 := by
    by_cases hz : fenL p b V = p.leader
    · rw [if_pos hz]; omega
    · rw [if_neg hz]; omega
  by_cases hc : fenL p b V = p.leader ∧ (fenIsr p b).length = p.isr.length
  · rw [if_pos hc] at hfe
    have e : fenP p b = p := by unfold fenP; rw [fen_full hc.2]
    have e2 : fenIsr p b = p.isr := fen_full hc.2
    refine ⟨fenP p b, hfe, ?_, ?_, ?_⟩
    · rw [e]
      refine ⟨h.right, by omega, by omega, hnd, fun x hx => h.ids x ((hV x).1 hx).1, by rw [← hc.1]; exact hlead, fun x hx hn => ?_⟩
      have := hgone x (by rw [e2]; exact hx) hn
      rw [e2] at this
      exact this
    · rw [e, ← hc.1]
      rcases hlead with e3 | e3
      · rw [e3]; omega
      · exact fun e4 => hbV (e4 ▸ e3)
    · exact hbis
  · rw [if_neg hc] at hfe
    have hov : overB (nextP (fenP p b) (fenL p b V)) = false := by
      rw [nextP_eq]
      simp only [overB, fenP]
      refine decide_eq_false ?_
      omega
    have hch : changedP (fenP p b) (fenL p b V) = (nextP (fenP p b) (fenL p b V), 0) := by unfold changedP; rw [if_neg (by rw [hov]; simp)]
    rw [hch] at hfe
    have hr := next_right hfl h.right.epoch.1 h.right.ver.1 hL hov
    refine ⟨_, hfe, ?_, ?_, ?_⟩
    · rw [nextP_eq] at hr ⊢
      refine ⟨hr, ?_, ?_, hnd, fun x hx => h.ids x ((hV x).1 hx).1, hlead, hgone⟩
      · simp only [fenP]; omega
      · simp only [fenP]; omega
    · rw [nextP_eq]
      simp only
      rcases hlead with e3 | e3
      · rw [e3]; omega
      · exact fun e4 => hbV (e4 ▸ e3)
    · rw [nextP_eq]
      exact hbis
theorem fi_end {p : Pt} (h : FI p []) : p.leader = 0 ∧ ∃ x, p.isr = [x] ∧ backP p x = (⟨p.id, x, p.epoch + 1, p.ver + 1, p.isr, p.reps, p.add, p.rem, p.min⟩, 0) := by
  have hl : p.leader = 0 := by
    rcases h.lead with e | e
    · exact e
    · cases e
  refine ⟨hl, ?_⟩
  cases hi : p.isr with
  | nil => exact absurd hi h.right.some
  | cons x r =>
    have hx : x ∈ p.isr := by rw [hi]; simp
    have he := h.gone x hx (by simp)
    refine ⟨x, by rw [← hi, he], ?_⟩
    have hb := h.right.isr.2 x hx
    have hx0 : ¬ x = p.leader := by rw [hl]; omega
    unfold backP
    rw [rightB_iff.2 h.right, upB_iff.2 hb]
    have hlk : lackB p.isr x = false := by simp [lackB, hasB_iff.2 hx]
    rw [hlk]
    simp only [Bool.not_true, Bool.or_self, Bool.false_eq_true, if_false, hl, ne_eq, not_true_eq_false, or_self]
    unfold changedP
    have hv := h.ver
    have hep := h.epoch
    simp at hv hep
    have hn : nextP p x = ⟨p.id, x, p.epoch + 1, p.ver + 1, p.isr, p.reps, p.add, p.rem, p.min⟩ := by rw [nextP_eq, if_neg hx0]
    rw [hn, if_neg, hi]
    simp [overB]
    omega
theorem mem_cut {U : List Int} {k : Nat} (hk : k < U.length) (hd : U.Nodup) (x : Int) : x ∈ U.take k ++ U.drop (k + 1) ↔ (x ∈ U ∧ x ≠ U[k]) := by
  have e : U = U.take k ++ (U[k] :: U.drop (k + 1)) := by
    conv => lhs; rw [← List.take_append_drop k U, List.drop_eq_getElem_cons hk]
  have hd' := hd
  rw [e] at hd'
  obtain ⟨h1, h2, h3⟩ := List.nodup_append.1 hd'
  have h4 := List.nodup_cons.1 h2
  constructor
  · intro hx
    rcases List.mem_append.1 hx with hx | hx
    · exact ⟨List.mem_of_mem_take hx, fun e2 => h3 x hx U[k] List.mem_cons_self e2⟩
    · exact ⟨List.mem_of_mem_drop hx, fun e2 => h4.1 (e2 ▸ hx)⟩
  · rintro ⟨hx, hne⟩
    rw [e] at hx
    rcases List.mem_append.1 hx with hx | hx
    · exact List.mem_append.2 (.inl hx)
    · rcases List.mem_cons.1 hx with rfl | hx
      · exact absurd rfl hne
      · exact List.mem_append.2 (.inr hx)
theorem nodup_cut {U : List Int} {k : Nat} (hk : k < U.length) (hd : U.Nodup) : (U.take k ++ U.drop (k + 1)).Nodup := by
  have e : U = U.take k ++ (U[k] :: U.drop (k + 1)) := by
    conv => lhs; rw [← List.take_append_drop k U, List.drop_eq_getElem_cons hk]
  rw [e] at hd
  obtain ⟨h1, h2, h3⟩ := List.nodup_append.1 hd
  exact List.nodup_append.2 ⟨h1, (List.nodup_cons.1 h2).2, fun a ha b hb => h3 a ha b (List.mem_cons_of_mem _ hb)⟩
end Go.Proofs.Ytfahepeemodcbaa
