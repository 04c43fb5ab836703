/- What Load takes was written by Keep. -/
import Derived.Test.YtkdbclnnmpnfgaaHD21
import Derived.Test.YtkdbclnnmpnfgaaHL1
namespace Go.Proofs.Ytkdbclnnmpnfgaa
set_option linter.unusedSimpArgs false
set_option linter.unusedVariables false

theorem rdN_inv {s : RS} (h : (rdN s).2.wrong = false) : s.wrong = false ∧ s.rest = noteB (rdN s).1 ++ (rdN s).2.rest := by
  unfold rdN at h ⊢
  simp only at h ⊢
  obtain ⟨h3, e4⟩ := num_inv h
  obtain ⟨h2, e3⟩ := num_inv h3
  obtain ⟨h1, e2⟩ := num_inv h2
  obtain ⟨h0, e1⟩ := num_inv h1
  refine ⟨h0, ?_⟩
  conv => lhs; rw [e1, e2, e3, e4]
  simp [noteB, intsL]
theorem notes_inv : ∀ (c : Nat) (acc : List Nt) (s : RS) (l : List Nt) (s' : RS), notesS c acc s = (some l, s') → s'.wrong = false → LOk acc → ∃ m, l = acc ++ m ∧ m.length = c ∧ s.wrong = false ∧ s.rest = notesB m ++ s'.rest ∧ LOk l
  | 0, acc, s, l, s', h, hw, ho => by
    simp only [notesS, Prod.mk.injEq, Option.some.injEq] at h
    obtain ⟨rfl, rfl⟩ := h
    exact ⟨[], by simp, rfl, hw, by simp [notesB], ho⟩
  | c + 1, acc, s, l, s', h, hw, ho => by
    simp only [notesS] at h
    split at h
    · rename_i hc
      rw [Bool.and_eq_true] at hc
      have ho' := ho.snoc (rightNt_ok.1 hc.1) hc.2
      obtain ⟨m, e1, e2, e3, e4, e5⟩ := notes_inv c _ _ l s' h hw ho'
      obtain ⟨h0, er⟩ := rdN_inv e3
      refine ⟨(rdN s).1 :: m, by rw [e1]; simp, by simp [e2], h0, ?_, e5⟩
      conv => lhs; rw [er, e4]
      simp [notesB]
    · simp at h
theorem count_inv {most : Int} {s : RS} (h : (countS most s).2.wrong = false) : s.wrong = false ∧ s.rest = intL (countS most s).1 ++ (countS most s).2.rest ∧ 0 ≤ (countS most s).1 := by
  unfold countS at h ⊢
  split at h
  · simp [spoiled] at h
  · rename_i hc
    rw [if_neg hc]
    obtain ⟨h0, e⟩ := num_inv h
    exact ⟨h0, e, by omega⟩
theorem notesR_inv {most : Int} {s : RS} (hn : (notesR most s).1 ≠ []) (h : (notesR most s).2.wrong = false) : s.wrong = false ∧ s.rest = intL ((notesR most s).1.length : Int) ++ (notesB (notesR most s).1 ++ (notesR most s).2.rest) ∧ LOk (notesR most s).1 := by
  unfold notesR at hn h ⊢
  simp only at hn h ⊢
  revert hn h
  generalize hS : notesS (countS most s).1.toNat [] (countS most s).2 = R
  obtain ⟨o, s'⟩ := R
  intro hn h
  · cases o with
    | none => simp at hn
    | some l =>
      simp only at hn h ⊢
      obtain ⟨m, e1, e2, e3, e4, e5⟩ := notes_inv _ _ _ l s' hS h LOk.nil
      obtain ⟨c0, c1, c2⟩ := count_inv e3
      rw [List.nil_append] at e1
      subst e1
      refine ⟨c0, ?_, e5⟩
      have e6 : ((l.length : Nat) : Int) = (countS most s).1 := by omega
      rw [e6]
      conv => lhs; rw [c1, e4]
theorem tab_inv (most : Int) : ∀ (c : Nat) (last : Int) (T : Tb) (s : RS) (T' : Tb) (s' : RS), tabS most c last T s = some (T', s') → s'.wrong = false → 0 ≤ last → ∃ M : Tb, T' = T ++ M ∧ M.length = c ∧ s.wrong = false ∧ s.rest = tabB M ++ s'.rest ∧ (∀ p ∈ M, (1 ≤ p.1 ∧ p.1 ≤ 1000000000) ∧ p.2 ≠ [] ∧ LOk p.2) ∧ M.Pairwise (fun p q => p.1 < q.1) ∧ ∀ p ∈ M, last < p.1
  | 0, last, T, s, T', s', h, hw, h0 => by
    simp only [tabS, Option.some.injEq, Prod.mk.injEq] at h
    obtain ⟨rfl, rfl⟩ := h
    exact ⟨[], by simp, rfl, hw, by simp [tabB], by simp, List.Pairwise.nil, by simp⟩
  | c + 1, last, T, s, T', s', h, hw, h0 => by
    simp only [tabS] at h
    split at h
    · cases h
    · rename_i hc
      have hc' : badP last (numS s).1 (notesR most (numS s).2).1 = false := by simpa using hc
      unfold badP inB at hc'
      simp only [Bool.or_eq_false_iff, decide_eq_false_iff_not, Bool.not_eq_false', Bool.and_eq_true, decide_eq_true_eq] at hc'
      obtain ⟨⟨b1, b2⟩, b3⟩ := hc'
      have hne : (notesR most (numS s).2).1 ≠ [] := fun e => b3 (by rw [e]; rfl)
      obtain ⟨M, e1, e2, e3, e4, e5, e6, e7⟩ := tab_inv most c _ _ _ T' s' h hw (by omega)
      obtain ⟨n0, n1, n2⟩ := notesR_inv hne e3
      obtain ⟨p0, p1⟩ := num_inv n0
      refine ⟨((numS s).1, (notesR most (numS s).2).1) :: M, by rw [e1]; simp, by simp [e2], p0, ?_, ?_, ?_, ?_⟩
      · conv => lhs; rw [p1, n1, e4]
        simp [tabB, prodB, intsL]
      · intro p hp
        rcases List.mem_cons.1 hp with rfl | hp
        · exact ⟨⟨by simp only; omega, by simp only; omega⟩, hne, n2⟩
        · exact e5 p hp
      · exact List.pairwise_cons.2 ⟨fun p hp => e7 p hp, e6⟩
      · intro p hp
        rcases List.mem_cons.1 hp with rfl | hp
        · simp only; omega
        · have := e7 p hp; omega
theorem u8_of (n : Nat) (d : UInt8) (h : n % 256 = d.toNat) : UInt8.ofNat n = d := by
  apply UInt8.toNat_inj.1
  simpa using h
theorem four_inv (b : List UInt8) (h : 4 ≤ b.length) : b = fourL (fourN b) ++ b.drop 4 := by
  match b, h with
  | a :: c :: d :: e :: r, _ =>
    have h1 : a.toNat < 256 := by simpa using a.toNat_lt
    have h2 : c.toNat < 256 := by simpa using c.toNat_lt
    have h3 : d.toNat < 256 := by simpa using d.toNat_lt
    have h4 : e.toNat < 256 := by simpa using e.toNat_lt
    have hf : fourN (a :: c :: d :: e :: r) = a.toNat * 16777216 + c.toNat * 65536 + d.toNat * 256 + e.toNat := by simp [fourN]
    rw [hf]
    unfold fourL
    rw [u8_of _ a (by omega), u8_of _ c (by omega), u8_of _ d (by omega), u8_of _ e (by omega)]
    rfl
theorem cnt_le : ∀ T : Tb, cntT T ≤ (tabB T).length
  | [] => by simp [cntT, tabB]
  | p :: r => by
    have := cnt_le r
    have h2 := len_notesB p.2
    simp only [cntT, tabB, prodB, List.length_append]
    omega
theorem load_inv (b : List UInt8) (T : Tb) (hb : b.length ≤ 100000) (h : loadL b = (T, 0)) : b = keepB T ∧ TOk T := by
  unfold loadL at h
  split at h
  · simp at h
  rename_i h4
  split at h
  · simp at h
  rename_i h6
  have h6' : fourN b = crcL (b.drop 4) := Classical.not_not.1 h6
  have hbb := four_inv b (by omega)
  have hdl : (b.drop 4).length ≤ 100000 := by rw [List.length_drop]; omega
  generalize b.drop 4 = rest at *
  unfold loadR at h
  split at h
  · simp at h
  · rename_i T' s' hT
    split at h
    · rename_i hd
      simp only [Prod.mk.injEq, and_true] at h
      subst h
      unfold doneS at hd
      simp only [Bool.and_eq_true, Bool.not_eq_true', List.isEmpty_iff] at hd
      obtain ⟨M, e1, e2, e3, e4, e5, e6, e7⟩ := tab_inv _ _ _ _ _ T' s' hT hd.1 (by omega)
      obtain ⟨c0, c1, c2⟩ := count_inv e3
      rw [List.nil_append] at e1
      subst e1
      have e8 : ((T'.length : Nat) : Int) = (countS (rest.length : Int) ⟨rest, false⟩).1 := by omega
      have er : rest = intL (T'.length : Int) ++ tabB T' := by
        rw [e8]
        have := c1
        simp only at this
        rw [e4, hd.2, List.append_nil] at this
        exact this
      refine ⟨?_, e5, e6, ?_⟩
      · unfold keepB sealL
        rw [hbb, h6', er]
      · have := cnt_le T'
        have h9 := congrArg List.length er
        rw [List.length_append] at h9
        omega
    · simp at h
end Go.Proofs.Ytkdbclnnmpnfgaa

