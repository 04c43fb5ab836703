/- What the document's reader makes of some bytes is what the program's makes. -/
import Derived.Test.YtcmmfmibgnebpaaRefrd
namespace Go.Proofs.Ytcmmfmibgnebpaa
set_option linter.unusedSimpArgs false
set_option linter.unusedVariables false

def recR (s : RS) : Rec × RS :=
  (⟨(textR 1000 (numS s).2).1, (textR 1000 (textR 1000 (numS s).2).2).1, (numS s).1⟩, (textR 1000 (textR 1000 (numS s).2).2).2)
def recsR : Nat → RS → List Rec × RS
  | 0, s => ([], s)
  | n + 1, s => ((recsR n s).1 ++ [(recR (recsR n s).2).1], (recR (recsR n s).2).2)
/-- The two are the same, or what is left is wrong in both. -/
def Twin {A : Type} (x y : A × RS) : Prop := x = y ∨ (x.2.wrong = true ∧ y.2.wrong = true)

theorem numS_wrong {s : RS} (h : s.wrong = true) : (numS s).2.wrong = true := by
  unfold numS
  split
  · exact h
  · rfl
theorem textR_wrong (most : Int) {s : RS} (h : s.wrong = true) : (textR most s).2.wrong = true := by
  have h1 := numS_wrong h
  unfold textR
  split
  · rfl
  · exact h1
theorem textS_wrong (most : Int) {s : RS} (h : s.wrong = true) : (textS most s).2.wrong = true := by
  have h1 := numS_wrong h
  have h2 : (countS most s).2.wrong = true := by
    unfold countS
    split
    · rfl
    · exact h1
  unfold textS
  split
  · rfl
  · exact h2
theorem text_twin (most : Int) (s : RS) : Twin (textS most s) (textR most s) := by
  have hS : textS most s = if ((countS most s).2.rest.length : Int) < (countS most s).1 then ([], spoiled) else ((countS most s).2.rest.take (countS most s).1.toNat, ⟨(countS most s).2.rest.drop (countS most s).1.toNat, (countS most s).2.wrong⟩) := rfl
  have hC : countS most s = if (numS s).1 < 0 ∨ most < (numS s).1 then (0, spoiled) else numS s := rfl
  have hR : textR most s = if (numS s).1 < 0 ∨ most < (numS s).1 ∨ ((numS s).2.rest.length : Int) < (numS s).1 then ([], ⟨(numS s).2.rest, true⟩)
      else ((numS s).2.rest.take (numS s).1.toNat, ⟨(numS s).2.rest.drop (numS s).1.toNat, (numS s).2.wrong⟩) := rfl
  by_cases h1 : (numS s).1 < 0 ∨ most < (numS s).1
  · right
    rw [if_pos h1] at hC
    rw [hC] at hS
    rw [if_pos (by rcases h1 with h | h <;> simp [h])] at hR
    rw [hS, hR]
    exact ⟨by simp [spoiled], rfl⟩
  · rw [if_neg h1] at hC
    rw [hC] at hS
    by_cases h2 : ((numS s).2.rest.length : Int) < (numS s).1
    · right
      rw [if_pos h2] at hS
      rw [if_pos (.inr (.inr h2))] at hR
      rw [hS, hR]
      exact ⟨rfl, rfl⟩
    · left
      rw [if_neg h2] at hS
      rw [if_neg (by omega)] at hR
      rw [hS, hR]
theorem rec_twin (s : RS) : Twin (recS s) (recR s) := by
  have hS : recS s = (⟨(textS 1000 (numS s).2).1, (textS 1000 (textS 1000 (numS s).2).2).1, (numS s).1⟩, (textS 1000 (textS 1000 (numS s).2).2).2) := rfl
  have hR : recR s = (⟨(textR 1000 (numS s).2).1, (textR 1000 (textR 1000 (numS s).2).2).1, (numS s).1⟩, (textR 1000 (textR 1000 (numS s).2).2).2) := rfl
  rcases text_twin 1000 (numS s).2 with h1 | ⟨h1, h2⟩
  · rw [h1] at hS
    rcases text_twin 1000 (textR 1000 (numS s).2).2 with h3 | ⟨h3, h4⟩
    · rw [h3] at hS
      exact .inl (hS.trans hR.symm)
    · right; rw [hS, hR]; exact ⟨h3, h4⟩
  · right; rw [hS, hR]; exact ⟨textS_wrong _ h1, textR_wrong _ h2⟩
theorem recR_wrong {s : RS} (h : s.wrong = true) : (recR s).2.wrong = true := textR_wrong _ (textR_wrong _ (numS_wrong h))
theorem recS_wrong {s : RS} (h : s.wrong = true) : (recS s).2.wrong = true := textS_wrong _ (textS_wrong _ (numS_wrong h))
theorem recs_twin (n : Nat) (s : RS) : Twin (recsS n s) (recsR n s) := by
  induction n with
  | zero => exact .inl rfl
  | succ n ih =>
    have hS : recsS (n + 1) s = ((recsS n s).1 ++ [(recS (recsS n s).2).1], (recS (recsS n s).2).2) := rfl
    have hR : recsR (n + 1) s = ((recsR n s).1 ++ [(recR (recsR n s).2).1], (recR (recsR n s).2).2) := rfl
    rcases ih with h1 | ⟨h1, h2⟩
    · rw [h1] at hS
      rcases rec_twin (recsR n s).2 with h3 | ⟨h3, h4⟩
      · rw [h3] at hS
        exact .inl (hS.trans hR.symm)
      · right; rw [hS, hR]; exact ⟨h3, h4⟩
    · right; rw [hS, hR]; exact ⟨recS_wrong h1, recR_wrong h2⟩
theorem recsR_length (n : Nat) (s : RS) : (recsR n s).1.length = n := by
  induction n with
  | zero => rfl
  | succ n ih => simp [recsR, ih]

/-- A batch's body, as the document reads it. -/
def bodyR (l : List UInt8) : Option Bat :=
  match (numsS 5 ⟨l, false⟩).1 with
  | [n0, n1, n2, n3, n4] =>
    let c := numS (numsS 5 ⟨l, false⟩).2
    if c.1 < 1 ∨ 64 < c.1 then none
    else if (recsR c.1.toNat c.2).2.wrong = true ∨ (recsR c.1.toNat c.2).2.rest ≠ [] ∨ rightL ⟨n0, n1, n2, n3, n4, (recsR c.1.toNat c.2).1⟩ ≠ 0 then none
    else some ⟨n0, n1, n2, n3, n4, (recsR c.1.toNat c.2).1⟩
  | _ => none
theorem done_false {s : RS} (h : s.wrong = true) : doneS s = false := by simp [doneS, h]
theorem done_iff (s : RS) : doneS s = false ↔ (s.wrong = true ∨ s.rest ≠ []) := by
  unfold doneS
  cases s.wrong <;> cases s.rest <;> simp
theorem bodyR_eq (l : List UInt8) : bodyR l = if (bodyS l).2 = false ∨ rightL (bodyS l).1 ≠ 0 then none else some (bodyS l).1 := by
  obtain ⟨n0, n1, n2, n3, n4, hn⟩ := five_list ⟨l, false⟩
  have HB : bodyS l = (⟨n0, n1, n2, n3, n4, (recsS (countS 64 (numsS 5 ⟨l, false⟩).2).1.toNat (countS 64 (numsS 5 ⟨l, false⟩).2).2).1⟩, doneS (recsS (countS 64 (numsS 5 ⟨l, false⟩).2).1.toNat (countS 64 (numsS 5 ⟨l, false⟩).2).2).2) := by
    have h1 := bodyS_nums l
    have h2 := bodyS_recs l
    rw [hn] at h1
    generalize bodyS l = b at *
    obtain ⟨⟨a0, a1, a2, a3, a4, rs⟩, d⟩ := b
    simp only [List.cons.injEq, and_true] at h1 h2
    obtain ⟨rfl, rfl, rfl, rfl, rfl⟩ := h1
    rw [h2.1, h2.2]
  have HR : bodyR l = if (numS (numsS 5 ⟨l, false⟩).2).1 < 1 ∨ 64 < (numS (numsS 5 ⟨l, false⟩).2).1 then none
    else if (recsR (numS (numsS 5 ⟨l, false⟩).2).1.toNat (numS (numsS 5 ⟨l, false⟩).2).2).2.wrong = true ∨ (recsR (numS (numsS 5 ⟨l, false⟩).2).1.toNat (numS (numsS 5 ⟨l, false⟩).2).2).2.rest ≠ [] ∨ rightL ⟨n0, n1, n2, n3, n4, (recsR (numS (numsS 5 ⟨l, false⟩).2).1.toNat (numS (numsS 5 ⟨l, false⟩).2).2).1⟩ ≠ 0 then none
    else some ⟨n0, n1, n2, n3, n4, (recsR (numS (numsS 5 ⟨l, false⟩).2).1.toNat (numS (numsS 5 ⟨l, false⟩).2).2).1⟩ := by
    unfold bodyR
    rw [hn]
  generalize (numsS 5 ⟨l, false⟩).2 = s at *
  have hC : countS 64 s = if (numS s).1 < 0 ∨ 64 < (numS s).1 then (0, spoiled) else numS s := rfl
  generalize numS s = c at *
  obtain ⟨n, s1⟩ := c
  simp only at *
  rw [HB, HR]
  clear HB HR
  by_cases h1 : n < 0 ∨ 64 < n
  · rw [if_pos h1] at hC
    rw [hC, if_pos (by omega), if_pos (.inl (show doneS spoiled = false from rfl))]
  · rw [if_neg h1] at hC
    rw [hC]
    by_cases h2 : n < 1
    · have h0 : n = 0 := by omega
      subst h0
      have hne : rightL ⟨n0, n1, n2, n3, n4, (recsS (0 : Int).toNat s1).1⟩ ≠ 0 := fun h => (rightL_ok h).2.2.1 rfl
      rw [if_pos (.inl (by omega)), if_pos (.inr hne)]
    · rw [if_neg (by omega)]
      simp only
      rcases recs_twin n.toNat s1 with h3 | ⟨h3, h4⟩
      · rw [h3]
        generalize recsR n.toNat s1 = r
        by_cases h5 : r.2.wrong = true ∨ r.2.rest ≠ []
        · rw [if_pos (by rcases h5 with h | h; exact .inl h; exact .inr (.inl h)), if_pos (.inl ((done_iff _).2 h5))]
        · have h6 : ¬ doneS r.2 = false := fun h => h5 ((done_iff _).1 h)
          by_cases h7 : rightL ⟨n0, n1, n2, n3, n4, r.1⟩ = 0
          · rw [if_neg (by rintro (h | h | h); exact h5 (.inl h); exact h5 (.inr h); exact h h7), if_neg (by rintro (h | h); exact h6 h; exact h h7)]
          · rw [if_pos (.inr (.inr h7)), if_pos (.inr h7)]
      · rw [if_pos (.inl h4), if_pos (.inl (done_false h3))]

/-- A record of metadata, as the document reads it. -/
def metR (l : List UInt8) : Option Met :=
  match (numsS 5 ⟨l, false⟩).1 with
  | [n0, n1, n2, n3, n4] =>
    let n := textR 32 (numsS 5 ⟨l, false⟩).2
    let t := textR 1000 n.2
    let c := numS t.2
    if c.1 < 0 ∨ 64 < c.1 then none
    else if (numsS c.1.toNat c.2).2.wrong = true ∨ (numsS c.1.toNat c.2).2.rest ≠ [] then none
    else some ⟨n0, n1, n2, n3, n4, n.1, t.1, (numsS c.1.toNat c.2).1⟩
  | _ => none
theorem numsS_wrong (n : Nat) {s : RS} (h : s.wrong = true) : (numsS n s).2.wrong = true := by
  induction n with
  | zero => exact h
  | succ n ih => exact numS_wrong ih
theorem countS_wrong (most : Int) {s : RS} (h : s.wrong = true) : (countS most s).2.wrong = true := by
  unfold countS
  split
  · rfl
  · exact numS_wrong h
theorem metR_eq (l : List UInt8) : metR l = if (metS l).2 = false then none else some (metS l).1 := by
  obtain ⟨n0, n1, n2, n3, n4, hn⟩ := five_list ⟨l, false⟩
  have HB : metS l = (⟨n0, n1, n2, n3, n4, (textS 32 (numsS 5 ⟨l, false⟩).2).1, (textS 1000 (textS 32 (numsS 5 ⟨l, false⟩).2).2).1, (numsS (countS 64 (textS 1000 (textS 32 (numsS 5 ⟨l, false⟩).2).2).2).1.toNat (countS 64 (textS 1000 (textS 32 (numsS 5 ⟨l, false⟩).2).2).2).2).1⟩,
      doneS (numsS (countS 64 (textS 1000 (textS 32 (numsS 5 ⟨l, false⟩).2).2).2).1.toNat (countS 64 (textS 1000 (textS 32 (numsS 5 ⟨l, false⟩).2).2).2).2).2) := by
    have h1 := metS_nums l
    have h2 := metS_rest l
    rw [hn] at h1
    generalize metS l = b at *
    obtain ⟨⟨a0, a1, a2, a3, a4, a5, a6, a7⟩, d⟩ := b
    simp only [List.cons.injEq, and_true] at h1 h2
    obtain ⟨rfl, rfl, rfl, rfl, rfl⟩ := h1
    rw [h2.1, h2.2.1, h2.2.2.1, h2.2.2.2]
  generalize hs : (numsS 5 ⟨l, false⟩).2 = s at *
  have HR : metR l = if (numS (textR 1000 (textR 32 s).2).2).1 < 0 ∨ 64 < (numS (textR 1000 (textR 32 s).2).2).1 then none
      else if (numsS (numS (textR 1000 (textR 32 s).2).2).1.toNat (numS (textR 1000 (textR 32 s).2).2).2).2.wrong = true ∨ (numsS (numS (textR 1000 (textR 32 s).2).2).1.toNat (numS (textR 1000 (textR 32 s).2).2).2).2.rest ≠ [] then none
      else some ⟨n0, n1, n2, n3, n4, (textR 32 s).1, (textR 1000 (textR 32 s).2).1, (numsS (numS (textR 1000 (textR 32 s).2).2).1.toNat (numS (textR 1000 (textR 32 s).2).2).2).1⟩ := by
    unfold metR
    rw [hn, hs]
  rw [HB, HR]
  clear HB HR
  have hbad : ∀ (nm tx : List UInt8) (x y : RS), x.wrong = true → y.wrong = true →
      (if (numS y).1 < 0 ∨ 64 < (numS y).1 then none
      else if (numsS (numS y).1.toNat (numS y).2).2.wrong = true ∨ (numsS (numS y).1.toNat (numS y).2).2.rest ≠ [] then none
      else some (⟨n0, n1, n2, n3, n4, nm, tx, (numsS (numS y).1.toNat (numS y).2).1⟩ : Met)) = none ∧ doneS (numsS (countS 64 x).1.toNat (countS 64 x).2).2 = false := fun nm tx x y hx hy => by
    refine ⟨?_, done_false (numsS_wrong _ (countS_wrong _ hx))⟩
    split
    · rfl
    · rw [if_pos (.inl (numsS_wrong _ (numS_wrong hy)))]
  rcases text_twin 32 s with h1 | ⟨h1, h2⟩
  · rw [h1]
    rcases text_twin 1000 (textR 32 s).2 with h3 | ⟨h3, h4⟩
    · rw [h3]
      generalize textR 1000 (textR 32 s).2 = t
      obtain ⟨tx, s2⟩ := t
      simp only
      have hC : countS 64 s2 = if (numS s2).1 < 0 ∨ 64 < (numS s2).1 then (0, spoiled) else numS s2 := rfl
      by_cases h5 : (numS s2).1 < 0 ∨ 64 < (numS s2).1
      · rw [if_pos h5] at hC
        rw [hC, if_pos h5]
        rfl
      · rw [if_neg h5] at hC
        rw [hC, if_neg h5]
        generalize numsS (numS s2).1.toNat (numS s2).2 = r
        by_cases h6 : r.2.wrong = true ∨ r.2.rest ≠ []
        · rw [if_pos h6, if_pos ((done_iff _).2 h6)]
        · rw [if_neg h6, if_neg (fun h => h6 ((done_iff _).1 h))]
    · obtain ⟨e1, e2⟩ := hbad (textR 32 s).1 (textR 1000 (textR 32 s).2).1 (textS 1000 (textR 32 s).2).2 (textR 1000 (textR 32 s).2).2 h3 h4
      rw [e1, if_pos e2]
  · obtain ⟨e1, e2⟩ := hbad (textR 32 s).1 (textR 1000 (textR 32 s).2).1 (textS 1000 (textS 32 s).2).2 (textR 1000 (textR 32 s).2).2 (textS_wrong _ h1) (textR_wrong _ h2)
    rw [e1, if_pos e2]
end Go.Proofs.Ytcmmfmibgnebpaa
