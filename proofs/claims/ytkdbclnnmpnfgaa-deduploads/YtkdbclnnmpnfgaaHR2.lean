/- The document's Keep, without memory. -/
import Derived.Test.YtkdbclnnmpnfgaaHR1
namespace Go.Proofs.Ytkdbclnnmpnfgaa
set_option linter.unusedSimpArgs false
set_option linter.unusedVariables false

def headB (prev : Option Int) (p : Int) (c : Nat) : List UInt8 := if prev = some p then [] else intsL [p, (c : Int)]
def refB (all : List Mk) : Option Int → List Mk → List UInt8
  | _, [] => []
  | prev, m :: r => headB prev m.1 (ofM m.1 all).length ++ noteB m.2 ++ refB all (some m.1) r
def refM : Option Int → List Mk → Nat
  | _, [] => 0
  | prev, m :: r => (if prev = some m.1 then 0 else 1) + refM (some m.1) r
def lastP (prev : Option Int) (l : List Mk) : Option Int := match l[l.length - 1]? with | some m => some m.1 | none => prev
theorem lastP_cons (prev : Option Int) (x : Mk) (r : List Mk) : lastP prev (x :: r) = lastP (some x.1) r := by
  unfold lastP
  cases r with
  | nil => rfl
  | cons y s =>
    have e : (x :: y :: s)[(x :: y :: s).length - 1]? = (y :: s)[(y :: s).length - 1]? := by simp
    rw [e]
    have hs : (y :: s)[(y :: s).length - 1]? = some ((y :: s)[(y :: s).length - 1]'(by simp)) := List.getElem?_eq_getElem (by simp)
    rw [hs]
theorem refB_snoc (all : List Mk) : ∀ (l : List Mk) (prev : Option Int) (x : Mk), refB all prev (l ++ [x]) = refB all prev l ++ (headB (lastP prev l) x.1 (ofM x.1 all).length ++ noteB x.2)
  | [], prev, x => by simp [refB, lastP]
  | y :: r, prev, x => by
    have ih := refB_snoc all r (some y.1) x
    simp only [List.cons_append, refB, ih, lastP_cons]
    simp
theorem refM_snoc : ∀ (l : List Mk) (prev : Option Int) (x : Mk), refM prev (l ++ [x]) = refM prev l + (if lastP prev l = some x.1 then 0 else 1)
  | [], prev, x => by simp [refM, lastP]
  | y :: r, prev, x => by
    have ih := refM_snoc r (some y.1) x
    simp only [List.cons_append, refM, ih, lastP_cons]
    omega
def flatT (T : Tb) : List Mk := T.flatMap fun p => p.2.map fun x => (p.1, x)
theorem flatT_cons (p : Int × List Nt) (T : Tb) : flatT (p :: T) = (p.2.map fun x => (p.1, x)) ++ flatT T := by simp [flatT]
theorem flatT_append (A B : Tb) : flatT (A ++ B) = flatT A ++ flatT B := by simp [flatT]
theorem flatT_length : ∀ T : Tb, (flatT T).length = cntT T
  | [] => rfl
  | p :: r => by rw [flatT_cons, List.length_append, flatT_length r]; simp [cntT]
theorem ofM_append (pid : Int) (a b : List Mk) : ofM pid (a ++ b) = ofM pid a ++ ofM pid b := by simp [ofM]
theorem ofM_same (pid : Int) (l : List Nt) : ofM pid (l.map fun x => (pid, x)) = l.map fun x => (pid, x) := by
  unfold ofM; rw [List.filter_eq_self]; intro m hm
  obtain ⟨x, _, rfl⟩ := List.mem_map.1 hm
  simp
theorem ofM_none (pid : Int) (ms : List Mk) (h : ∀ m ∈ ms, m.1 ≠ pid) : ofM pid ms = [] := by
  unfold ofM; rw [List.filter_eq_nil_iff]; intro m hm
  simp [h m hm]
theorem flatT_mem {T : Tb} {m : Mk} (h : m ∈ flatT T) : ∃ p ∈ T, p.1 = m.1 ∧ m.2 ∈ p.2 := by
  unfold flatT at h
  obtain ⟨p, hp, hm⟩ := List.mem_flatMap.1 h
  obtain ⟨x, hx, rfl⟩ := List.mem_map.1 hm
  exact ⟨p, hp, rfl, hx⟩
theorem ofM_flatT : ∀ (T : Tb), T.Pairwise (fun p q => p.1 < q.1) → ∀ pid, ofM pid (flatT T) = (tget T pid).map fun x => (pid, x)
  | [], _, pid => rfl
  | p :: r, h, pid => by
    have h' := List.pairwise_cons.1 h
    rw [flatT_cons, ofM_append]
    by_cases e : p.1 = pid
    · subst e
      rw [ofM_same, ofM_none p.1 (flatT r) (fun m hm => by
        obtain ⟨q, hq, e1, _⟩ := flatT_mem hm
        have := h'.1 q hq
        omega), List.append_nil]
      unfold tget; simp
    · rw [ofM_none pid _ (fun m hm => by
        obtain ⟨x, _, rfl⟩ := List.mem_map.1 hm
        exact e), List.nil_append, ofM_flatT r h'.2 pid]
      congr 1
      unfold tget
      have : (p.1 == pid) = false := by simpa using e
      rw [List.find?_cons, this]
theorem refB_run (all : List Mk) (p : Int) : ∀ (l : List Nt) (rest : List Mk), refB all (some p) ((l.map fun x => (p, x)) ++ rest) = notesB l ++ refB all (some p) rest
  | [], rest => rfl
  | x :: r, rest => by
    have ih := refB_run all p r rest
    simp only [List.map_cons, List.cons_append, refB, ih, headB, notesB]
    simp
theorem refM_run (p : Int) : ∀ (l : List Nt) (rest : List Mk), refM (some p) ((l.map fun x => (p, x)) ++ rest) = refM (some p) rest
  | [], rest => rfl
  | x :: r, rest => by
    have ih := refM_run p r rest
    simp only [List.map_cons, List.cons_append, refM, ih]
    simp
theorem refB_tab (all : List Mk) : ∀ (T : Tb) (prev : Option Int), (∀ p ∈ T, p.2 ≠ [] ∧ prev ≠ some p.1 ∧ (ofM p.1 all).length = p.2.length) → T.Pairwise (fun p q => p.1 < q.1) → refB all prev (flatT T) = tabB T ∧ refM prev (flatT T) = T.length
  | [], prev, _, _ => ⟨rfl, rfl⟩
  | p :: r, prev, h, hr => by
    have h' := List.pairwise_cons.1 hr
    obtain ⟨h1, h2, h3⟩ := h p (by simp)
    obtain ⟨i1, i2⟩ := refB_tab all r (some p.1) (fun q hq => ⟨(h q (by simp [hq])).1, fun e => by have := h'.1 q hq; have e2 := Option.some.inj e; omega, (h q (by simp [hq])).2.2⟩) h'.2
    rw [flatT_cons]
    obtain ⟨pid, l⟩ := p
    cases l with
    | nil => exact absurd rfl h1
    | cons x s =>
      simp only at h2 h3 ⊢
      constructor
      · simp only [List.map_cons, List.cons_append, refB, refB_run, i1, headB, if_neg h2, h3, tabB, prodB, notesB]
        simp
      · simp only [List.map_cons, List.cons_append, refM, refM_run, i2, if_neg h2, List.length_cons]
        omega
theorem refKeep (T : Tb) (hT : TOk T) : refB (flatT T) none (flatT T) = tabB T ∧ refM none (flatT T) = T.length :=
  refB_tab (flatT T) T none (fun p hp => ⟨(hT.each p hp).2.1, (by simp), by rw [ofM_flatT T hT.rise, tget_of_mem hT.rise hp]; simp⟩) hT.rise
theorem refB_length (all : List Mk) : ∀ (l : List Mk) (prev : Option Int), (refB all prev l).length ≤ l.length * 60
  | [], _ => by simp [refB]
  | m :: r, prev => by
    have h1 := refB_length all r (some m.1)
    have h2 := intsL_length [m.2.ep, m.2.seq, m.2.n, m.2.off]
    have h3 := intsL_length [m.1, ((ofM m.1 all).length : Int)]
    simp only [refB, noteB, List.length_append, List.length_cons, List.length_nil] at h2 h3 ⊢
    unfold headB
    split
    · simp only [List.length_nil]; omega
    · omega
theorem refM_le : ∀ (l : List Mk) (prev : Option Int), refM prev l ≤ l.length
  | [], _ => by simp [refM]
  | m :: r, prev => by
    have := refM_le r (some m.1)
    simp only [refM, List.length_cons]
    split <;> omega
end Go.Proofs.Ytkdbclnnmpnfgaa

