/- The document's Ask. -/
import Derived.Test.YtkdbclnnmpnfgaaHR5
import Derived.Test.YtkdbclnnmpnfgaaH9
namespace Go.Proofs.Ytkdbclnnmpnfgaa
open Go.RowKit Go.Maps
set_option maxRecDepth 100000
set_option linter.unusedSimpArgs false
set_option linter.unusedVariables false

theorem ep_split : ∀ (l : List Nt) (z : Nt), LOk l → l[l.length - 1]? = some z → ∃ k, k < l.length ∧ ∀ (i : Nat) x, l[i]? = some x → (x.ep = z.ep ↔ k ≤ i)
  | [], z, _, h => by simp at h
  | [x], z, hl, h => by
    simp at h; subst h
    exact ⟨0, by simp, fun i y hy => by
      have hi := (List.getElem?_eq_some_iff.1 hy).1
      have : i = 0 := by simpa using hi
      subst this
      simp at hy; subst hy; simp⟩
  | x :: y :: r, z, hl, h => by
    have hl2 : LOk (y :: r) := hl.sub (List.sublist_cons_self _ _)
    have hz : (y :: r)[(y :: r).length - 1]? = some z := by simpa using h
    obtain ⟨k, hk, ih⟩ := ep_split (y :: r) z hl2 hz
    by_cases e : x.ep = z.ep
    · refine ⟨0, by simp, fun i w hw => ⟨fun _ => Nat.zero_le _, fun _ => ?_⟩⟩
      cases i with
      | zero => simp at hw; subst hw; exact e
      | succ i =>
        have hw2 : (y :: r)[i]? = some w := by simpa using hw
        have h1 : x.ep ≤ w.ep := (hl.at_lt (i := 0) (j := i + 1) rfl hw (by omega)).2.1
        have h2 := lastEp_le hl2 hw2
        unfold lastEp at h2
        rw [hz] at h2
        simp only at h2
        omega
    · refine ⟨k + 1, by simp only [List.length_cons] at hk ⊢; omega, fun i w hw => ?_⟩
      cases i with
      | zero => simp at hw; subst hw; simp [e]
      | succ i =>
        have hw2 : (y :: r)[i]? = some w := by simpa using hw
        rw [ih i w hw2]; omega
def seqN (seq n : Int) (m : Mk) : Bool := decide (m.2.seq = seq) && decide (m.2.n = n)
theorem doc_find (m : List Mk) (hL : LOk (m.map (·.2))) (seq n : Int) (z : Nt) (hz : (m.map (·.2))[(m.map (·.2)).length - 1]? = some z) :
    tE m = z.ep ∧ nE (tE m) m = z.seq + z.n ∧ hitL (m.map (·.2)) z.ep seq n = ((topL m).find? (seqN seq n)).map (·.2) := by
  have hE : tE m = z.ep := by unfold tE lastEp; rw [hz]
  obtain ⟨k, hk, hs⟩ := ep_split _ z hL hz
  have hlen : (m.map (·.2)).length = m.length := by simp
  rw [hlen] at hk
  have hf : fE z.ep m = m.drop k := filter_drop_any _ _ _ fun i x hx => by
    have := hs i x.2 (by rw [List.getElem?_map, hx]; rfl)
    simp only [decide_eq_true_eq]; exact this
  refine ⟨hE, ?_, ?_⟩
  · rw [hE]
    unfold nE
    rw [hf, List.length_drop, List.getElem?_drop]
    have e : k + (m.length - k - 1) = m.length - 1 := by omega
    rw [e]
    rw [hlen, List.getElem?_map] at hz
    cases hm : m[m.length - 1]? with
    | none => rw [hm] at hz; cases hz
    | some y => rw [hm] at hz; simp at hz; subst hz; rfl
  · unfold topL
    rw [hE, hf, List.length_drop, List.drop_drop]
    unfold hitL
    rw [hlen, ← List.map_drop]
    have hrun : ∀ (i : Nat) x, k ≤ i → m[i]? = some x → isRun z.ep seq n x.2 = seqN seq n x := fun i x hi hx => by
      have := (hs i x.2 (by rw [List.getElem?_map, hx]; rfl)).2 hi
      unfold isRun seqN
      rw [this]; simp
    have key : ∀ j, k ≤ j → ((m.drop j).map (·.2)).find? (isRun z.ep seq n) = ((m.drop j).find? (seqN seq n)).map (·.2) := fun j hj => by
      have : ∀ l : List Mk, (∀ x ∈ l, isRun z.ep seq n x.2 = seqN seq n x) → (l.map (·.2)).find? (isRun z.ep seq n) = (l.find? (seqN seq n)).map (·.2) := by
        intro l
        induction l with
        | nil => intro _; rfl
        | cons y r ih =>
          intro h
          have h1 := h y (by simp)
          simp only [List.map_cons, List.find?_cons, h1]
          cases seqN seq n y
          · exact ih (fun x hx => h x (by simp [hx]))
          · rfl
      refine this _ (fun x hx => ?_)
      obtain ⟨i, hi, e⟩ := List.getElem_of_mem hx
      rw [List.length_drop] at hi
      exact hrun (j + i) x (by omega) (by rw [← List.getElem?_drop, ← e]; simp)
    rcases Nat.lt_or_ge (m.length - 5) k with h5 | h5
    · have e1 : k + (m.length - k - 5) = k := by omega
      rw [e1]
      have e2 : (m.drop (m.length - 5)) = (m.drop (m.length - 5)).take (k - (m.length - 5)) ++ m.drop k := by
        conv => lhs; rw [← List.take_append_drop (k - (m.length - 5)) (m.drop (m.length - 5))]
        rw [List.drop_drop]
        congr 2
        omega
      rw [e2, List.map_append, List.find?_append, key k (Nat.le_refl _)]
      have e3 : (((m.drop (m.length - 5)).take (k - (m.length - 5))).map (·.2)).find? (isRun z.ep seq n) = none := by
        rw [List.find?_eq_none]
        intro x hx hr
        obtain ⟨y, hy, rfl⟩ := List.mem_map.1 hx
        obtain ⟨i, hi, e⟩ := List.getElem_of_mem hy
        rw [List.length_take, List.length_drop] at hi
        have hyi : m[m.length - 5 + i]? = some y := by
          rw [← e, List.getElem_take, List.getElem_drop]; simp
        have h1 := hs (m.length - 5 + i) y.2 (by rw [List.getElem?_map, hyi]; rfl)
        unfold isRun at hr
        simp at hr
        have := h1.1 hr.1.1
        omega
      rw [e3]; rfl
    · have e1 : k + (m.length - k - 5) = m.length - 5 := by omega
      rw [e1]
      exact key _ h5
theorem topL_ok {m : List Mk} (hL : LOk (m.map (·.2))) : ∀ x ∈ topL m, NtOk x.2 := fun x hx => by
  unfold topL fE at hx
  exact hL.all _ (List.mem_map.2 ⟨x, (List.mem_filter.1 (List.mem_of_mem_drop hx)).1, rfl⟩)
/-- What the document finds. -/
def docF (m : List Mk) (ep seq n : Int) : Int × Int :=
  if tE m < ep then (if seq = 0 then (-1, 0) else (-1, 11))
  else if ep < tE m then (-1, 13)
  else match (topL m).find? (seqN seq n) with
    | some x => (x.2.off, 0)
    | none => if seq = nE (tE m) m then (-1, 0) else if nE (tE m) m < seq then (-1, 11) else (-1, 12)
theorem docF_eq (m : List Mk) (hL : LOk (m.map (·.2))) (ep seq n : Int) (he : 0 ≤ ep) (hs : 0 ≤ seq) : docF m ep seq n = findL (m.map (·.2)) ep seq n := by
  cases hz : (m.map (·.2))[(m.map (·.2)).length - 1]? with
  | none =>
    have h0 := last_none hz
    have h1 : m = [] := by simpa using h0
    subst h1
    have c1 : (-1 : Int) < ep := by omega
    have ht : tE [] = -1 := rfl
    have ho : oldB [] ep = false := rfl
    have hh : hitL [] ep seq n = none := rfl
    have hn : nextL [] ep = 0 := rfl
    unfold docF findL
    rw [ht, if_pos c1, List.map_nil, ho, hh, hn]
    simp only [Bool.false_eq_true, if_false]
    by_cases c5 : seq = 0
    · simp only [if_pos c5]
    · have c6 : (0 : Int) < seq := by omega
      simp only [if_neg c5, if_pos c6]
  | some z =>
    obtain ⟨h1, h2, h3⟩ := doc_find m hL seq n z hz
    have ho : oldB (m.map (·.2)) ep = decide (ep < z.ep) := by unfold oldB; rw [hz]
    have hn : nextL (m.map (·.2)) ep = if ep = z.ep then z.seq + z.n else 0 := by unfold nextL; rw [hz]
    unfold docF findL
    rw [h1] at h2 ⊢
    rw [ho, hn, h2]
    by_cases c1 : z.ep < ep
    · have c2 : ¬ ep < z.ep := by omega
      have c3 : ¬ ep = z.ep := by omega
      have c4 : ¬ (decide (ep < z.ep)) = true := by simpa using c2
      have hh : hitL (m.map (·.2)) ep seq n = none := by
        cases hh : hitL (m.map (·.2)) ep seq n with
        | none => rfl
        | some x =>
          unfold hitL at hh
          have hx1 := List.mem_of_mem_drop (List.mem_of_find?_eq_some hh)
          have hx2 := List.find?_some hh
          unfold isRun at hx2
          simp at hx2
          obtain ⟨j, hj, e⟩ := List.getElem_of_mem hx1
          have := lastEp_le hL (i := j) (x := x) (by rw [← e]; exact List.getElem?_eq_getElem hj)
          unfold lastEp at this
          rw [hz] at this
          simp only at this
          omega
      rw [hh]
      simp only [if_pos c1, if_neg c4, if_neg c3]
      by_cases c5 : seq = 0
      · simp only [if_pos c5]
      · have c6 : (0 : Int) < seq := by omega
        simp only [if_neg c5, if_pos c6]
    · by_cases c2 : ep < z.ep
      · have c4 : (decide (ep < z.ep)) = true := by simpa using c2
        simp only [if_neg c1, if_pos c2, if_pos c4]
      · have c4 : ¬ (decide (ep < z.ep)) = true := by simpa using c2
        have e : ep = z.ep := by omega
        rw [if_neg c1, if_neg c2, if_neg c4]
        subst e
        rw [h3]
        simp only [if_true]
        cases (topL m).find? (seqN seq n) <;> rfl
end Go.Proofs.Ytkdbclnnmpnfgaa

