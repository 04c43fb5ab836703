/- The document's Cut, Delete, Note, without memory: the same as the program's. -/
import Derived.Test.YtkdbclnnmpnfgaaHR6
import Derived.Test.YtkdbclnnmpnfgaaH12
namespace Go.Proofs.Ytkdbclnnmpnfgaa
set_option linter.unusedSimpArgs false
set_option linter.unusedVariables false

theorem cutM_append (N : Int) (a b : List Mk) : cutM N (a ++ b) = cutM N a ++ cutM N b := by simp [cutM]
theorem cutM_map (N : Int) (p : Int) : ∀ l : List Nt, cutM N (l.map fun x => (p, x)) = (cutN N l).map fun x => (p, x)
  | [] => rfl
  | x :: r => by
    have ih := cutM_map N p r
    unfold cutM cutN at ih ⊢
    simp only [List.map_cons, List.filter_cons, ih]
    split <;> simp_all
theorem flatT_turn_cons (f : List Nt → List Nt) (p : Int × List Nt) (r : Tb) : flatT (turnT f (p :: r)) = ((f p.2).map fun x => (p.1, x)) ++ flatT (turnT f r) := by
  unfold turnT
  simp only [List.map_cons, List.filter_cons]
  cases h : f p.2 with
  | nil => simp
  | cons y s => simp [flatT_cons]
theorem cutM_flatT (N : Int) : ∀ T : Tb, cutM N (flatT T) = flatT (turnT (cutN N) T)
  | [] => rfl
  | p :: r => by rw [flatT_cons, cutM_append, cutM_map, flatT_turn_cons, cutM_flatT N r]

/-- Which notes the document's Delete leaves. -/
def behM (N : Int) (x : Mk) (r : List Mk) : List Mk := r.filter fun y => decide (y.1 = x.1) && decide (y.2.off < N)
def othM (N : Int) (x : Mk) (r : List Mk) : Bool := (behM N x r).any fun y => !decide (y.2.ep = x.2.ep)
def keepD (N : Int) (x : Mk) (r : List Mk) : Bool := decide (N ≤ x.2.off) || (!othM N x r && decide ((behM N x r).length < 5))
def delM (N : Int) : List Mk → List Mk
  | [] => []
  | x :: r => if keepD N x r = true then x :: delM N r else delM N r
def delA : List Nt → List Nt
  | [] => []
  | x :: r => if (r.all (fun y => decide (y.ep = x.ep)) && decide (r.length < 5)) = true then x :: delA r else delA r
theorem behM_none {N : Int} {x : Mk} {r : List Mk} (h : ∀ y ∈ r, y.1 ≠ x.1 ∨ N ≤ y.2.off) : behM N x r = [] := by
  unfold behM; rw [List.filter_eq_nil_iff]; intro y hy
  rcases h y hy with h1 | h1
  · simp [h1]
  · simp; intro _; omega
theorem behM_append (N : Int) (x : Mk) (a b : List Mk) : behM N x (a ++ b) = behM N x a ++ behM N x b := by simp [behM]
theorem delM_high (N : Int) (p : Int) : ∀ (B : List Nt) (rest : List Mk), (∀ x ∈ B, N ≤ x.off) → delM N ((B.map fun x => (p, x)) ++ rest) = (B.map fun x => (p, x)) ++ delM N rest
  | [], rest, _ => rfl
  | x :: r, rest, h => by
    have ih := delM_high N p r rest (fun y hy => h y (by simp [hy]))
    have hx := h x (by simp)
    simp only [List.map_cons, List.cons_append, delM]
    rw [if_pos (by unfold keepD; simp [hx]), ih]
theorem delM_low (N : Int) (p : Int) : ∀ (A : List Nt) (rest : List Mk), (∀ x ∈ A, x.off < N) → (∀ y ∈ rest, y.1 ≠ p ∨ N ≤ y.2.off) → delM N ((A.map fun x => (p, x)) ++ rest) = ((delA A).map fun x => (p, x)) ++ delM N rest
  | [], rest, _, _ => rfl
  | x :: r, rest, h, hr => by
    have ih := delM_low N p r rest (fun y hy => h y (by simp [hy])) hr
    have hx := h x (by simp)
    have hb : behM N (p, x) ((r.map fun x => (p, x)) ++ rest) = r.map fun x => (p, x) := by
      rw [behM_append, behM_none (r := rest) (x := (p, x)) hr, List.append_nil]
      unfold behM
      rw [List.filter_eq_self]
      intro y hy
      obtain ⟨z, hz, rfl⟩ := List.mem_map.1 hy
      have := h z (by simp [hz])
      simp [this]
    have hk : keepD N (p, x) ((r.map fun x => (p, x)) ++ rest) = (r.all (fun y => decide (y.ep = x.ep)) && decide (r.length < 5)) := by
      unfold keepD othM
      rw [hb]
      have h1 : decide (N ≤ (p, x).2.off) = false := by simpa using hx
      rw [h1, List.length_map]
      rw [List.any_map]
      rw [List.not_any_eq_all_not]
      simp
    simp only [List.map_cons, List.cons_append, delM, delA, hk]
    split
    · simp [ih]
    · exact ih
theorem lastEp_cons (x y : Nt) (r : List Nt) : lastEp (x :: y :: r) = lastEp (y :: r) := by
  unfold lastEp
  have e : (x :: y :: r)[(x :: y :: r).length - 1]? = (y :: r)[(y :: r).length - 1]? := by simp
  rw [e]
theorem delA_eq : ∀ A : List Nt, LOk A → delA A = keepL A
  | [], _ => rfl
  | [x], _ => by simp [delA, keepL, lastEp]
  | x :: y :: r, h => by
    have h2 : LOk (y :: r) := h.sub (List.sublist_cons_self _ _)
    have ih := delA_eq (y :: r) h2
    have hall : (y :: r).all (fun z => decide (z.ep = x.ep)) = decide (x.ep = lastEp (y :: r)) := by
      rw [Bool.eq_iff_iff, List.all_eq_true]
      simp only [decide_eq_true_eq]
      have hz : (y :: r)[(y :: r).length - 1]? = some ((y :: r)[(y :: r).length - 1]'(by simp)) := List.getElem?_eq_getElem (by simp)
      constructor
      · intro hq
        have := hq _ (List.mem_of_getElem? hz)
        have e : lastEp (y :: r) = ((y :: r)[(y :: r).length - 1]'(by simp)).ep := by unfold lastEp; rw [hz]
        rw [e, this]
      · intro hq z hz2
        obtain ⟨i, hi, e⟩ := List.getElem_of_mem hz2
        have hzi : (y :: r)[i]? = some z := by rw [← e]; exact List.getElem?_eq_getElem hi
        have a1 := lastEp_le h2 hzi
        have a2 := (h.at_lt (i := 0) (j := i + 1) (x := x) (y := z) rfl (by simpa using hzi) (by omega)).2.1
        omega
    rw [delA, hall, ih]
    unfold keepL
    rw [lastEp_cons]
    generalize lastEp (y :: r) = E
    generalize hR : (y :: r) = R
    simp only [List.length_cons]
    by_cases h5 : R.length < 5
    · rw [show R.length + 1 - 5 = 0 by omega, show R.length - 5 = 0 by omega, List.drop_zero, List.drop_zero, List.filter_cons]
      simp [h5]
    · rw [show R.length + 1 - 5 = (R.length - 5) + 1 by omega, List.drop_succ_cons]
      simp [h5]
theorem cut_rest {l : List Nt} (h : LOk l) (N : Int) : l = cutN N l ++ restN N l := by
  have : ∃ r, cutN N l = l.take r ∧ restN N l = l.drop r := by
    have key : ∀ m : List Nt, LOk m → ∃ r, ∀ (i : Nat) x, m[i]? = some x → (x.off < N ↔ i < r) := by
      intro m
      induction m with
      | nil => intro _; exact ⟨0, fun i x hx => by simp at hx⟩
      | cons y s ih =>
        intro hm
        obtain ⟨r, hr⟩ := ih (hm.sub (List.sublist_cons_self _ _))
        by_cases e : y.off < N
        · refine ⟨r + 1, fun i x hx => ?_⟩
          cases i with
          | zero => simp at hx; subst hx; simp [e]
          | succ i => rw [hr i x (by simpa using hx)]; omega
        · refine ⟨0, fun i x hx => ?_⟩
          cases i with
          | zero => simp at hx; subst hx; simp; omega
          | succ i =>
            have := (hm.at_lt (i := 0) (j := i + 1) (x := y) rfl hx (by omega)).1
            constructor
            · intro h1; omega
            · intro h1; omega
    obtain ⟨r, hr⟩ := key l h
    exact ⟨r, filter_take_any _ _ _ fun i x hx => by rw [← hr i x hx]; simp, filter_drop_any _ _ _ fun i x hx => by have := hr i x hx; simp; omega⟩
  obtain ⟨r, h1, h2⟩ := this
  rw [h1, h2, List.take_append_drop]
theorem delM_one (N : Int) (p : Int) (l : List Nt) (hl : LOk l) (rest : List Mk) (hr : ∀ y ∈ rest, y.1 ≠ p) : delM N ((l.map fun x => (p, x)) ++ rest) = ((shortL N l).map fun x => (p, x)) ++ delM N rest := by
  have hc := cut_rest hl N
  have hA : ∀ x ∈ cutN N l, x.off < N := fun x hx => by have := (List.mem_filter.1 hx).2; simpa using this
  have hB : ∀ x ∈ restN N l, N ≤ x.off := fun x hx => by have := (List.mem_filter.1 hx).2; simpa using this
  conv => lhs; rw [hc]
  rw [List.map_append, List.append_assoc, delM_low N p _ _ hA (fun y hy => by
    rcases List.mem_append.1 hy with hy | hy
    · obtain ⟨z, hz, rfl⟩ := List.mem_map.1 hy
      exact .inr (hB z hz)
    · exact .inl (hr y hy)), delM_high N p _ _ hB, delA_eq (cutN N l) (hl.sub List.filter_sublist)]
  unfold shortL
  rw [List.map_append, List.append_assoc]
theorem delM_flatT (N : Int) : ∀ T : Tb, T.Pairwise (fun p q => p.1 < q.1) → (∀ p ∈ T, LOk p.2) → delM N (flatT T) = flatT (turnT (shortL N) T)
  | [], _, _ => rfl
  | p :: r, h, hl => by
    have h' := List.pairwise_cons.1 h
    rw [flatT_cons, flatT_turn_cons, delM_one N p.1 p.2 (hl p (by simp)) _ (fun y hy => by
      obtain ⟨q, hq, e, _⟩ := flatT_mem hy
      have := h'.1 q hq
      omega), delM_flatT N r h'.2 (fun q hq => hl q (by simp [hq]))]

/-- Where the document's Note puts a note. -/
def insM (x : Mk) : List Mk → List Mk
  | [] => [x]
  | y :: r => if x.1 < y.1 then x :: y :: r else y :: insM x r
theorem insM_past (x : Mk) : ∀ (a b : List Mk), (∀ y ∈ a, ¬ x.1 < y.1) → insM x (a ++ b) = a ++ insM x b
  | [], b, _ => rfl
  | y :: r, b, h => by
    simp only [List.cons_append, insM]
    rw [if_neg (h y (by simp)), insM_past x r b (fun z hz => h z (by simp [hz]))]
theorem insM_ahead (x : Mk) (l : List Mk) (h : ∀ y ∈ l, x.1 < y.1) : insM x l = x :: l := by
  cases l with
  | nil => rfl
  | cons y r => simp only [insM]; rw [if_pos (h y (by simp))]
theorem tins_ahead (x : Int × List Nt) (T : Tb) (h : ∀ p ∈ T, x.1 < p.1) : tins x T = x :: T := by
  cases T with
  | nil => rfl
  | cons y r => simp only [tins]; rw [if_pos (h y (by simp))]
theorem insM_flatT (pid : Int) (x : Nt) : ∀ T : Tb, T.Pairwise (fun p q => p.1 < q.1) → insM (pid, x) (flatT T) = flatT (tput T pid (tget T pid ++ [x]))
  | [], _ => by simp [flatT, insM, tput, tins, tget]
  | p :: r, h => by
    have h' := List.pairwise_cons.1 h
    have hr : ∀ y ∈ flatT r, p.1 < y.1 := fun y hy => by
      obtain ⟨q, hq, e, _⟩ := flatT_mem hy
      have := h'.1 q hq
      omega
    have hsame : ∀ y ∈ (p.2.map fun x => (p.1, x)), y.1 = p.1 := fun y hy => by obtain ⟨z, _, rfl⟩ := List.mem_map.1 hy; rfl
    rcases Int.lt_trichotomy p.1 pid with c | c | c
    · have ih := insM_flatT pid x r h'.2
      rw [flatT_cons, insM_past _ _ _ (fun y hy => by have := hsame y hy; simp only; omega), ih]
      have e1 : tget (p :: r) pid = tget r pid := by
        unfold tget
        have : (p.1 == pid) = false := by simp; omega
        rw [List.find?_cons, this]
      rw [e1]
      have e2 : (!(p.1 == pid)) = true := by simp; omega
      have e3 : tput (p :: r) pid (tget r pid ++ [x]) = p :: tput r pid (tget r pid ++ [x]) := by
        unfold tput
        rw [List.filter_cons, if_pos e2, tins, if_neg (by simp only; omega)]
      rw [e3, flatT_cons]
    · subst c
      rw [flatT_cons, insM_past _ _ _ (fun y hy => by have := hsame y hy; simp only; omega), insM_ahead _ _ hr]
      have e1 : tget (p :: r) p.1 = p.2 := by unfold tget; simp
      have e3 : tput (p :: r) p.1 (p.2 ++ [x]) = (p.1, p.2 ++ [x]) :: r := by
        unfold tput
        rw [List.filter_cons, if_neg (by simp), List.filter_eq_self.2 (fun q hq => by have := h'.1 q hq; simp; omega), tins_ahead (p.1, p.2 ++ [x]) _ (fun q hq => h'.1 q hq)]
      rw [e1, e3, flatT_cons]
      simp
    · have hall : ∀ q ∈ p :: r, pid < q.1 := fun q hq => by
        rcases List.mem_cons.1 hq with rfl | hq
        · exact c
        · have := h'.1 q hq; omega
      rw [insM_ahead _ _ (fun y hy => by
        obtain ⟨q, hq, e, _⟩ := flatT_mem hy
        have := hall q hq
        simp only; omega)]
      have e1 : tget (p :: r) pid = [] := by
        unfold tget
        rw [List.find?_eq_none.2 (fun q hq => by have := hall q hq; simp; omega)]
      have e3 : tput (p :: r) pid ([] ++ [x]) = (pid, [x]) :: p :: r := by
        unfold tput
        rw [List.filter_eq_self.2 (fun q hq => by have := hall q hq; simp; omega), tins_ahead _ _ hall]
        rfl
      rw [e1, e3, flatT_cons (pid, [x])]
      simp
/-- When the document refuses. -/
def lastOff (O : List Mk) : Int := match O[O.length - 1]? with | some z => z.2.off | none => -1
theorem doc_fol (O : List Mk) (hL : LOk (O.map (·.2))) (x : Nt) (hx : NtOk x) :
    folB (O.map (·.2)) x = !((decide (0 < O.length) && decide (x.off ≤ lastOff O)) || decide (x.ep < tE O) || (decide (x.ep = tE O) && decide (x.seq < nE (tE O) O))) := by
  cases hz : (O.map (·.2))[(O.map (·.2)).length - 1]? with
  | none =>
    have h0 := last_none hz
    have h1 : O = [] := by simpa using h0
    subst h1
    have he := hx.ep
    have c1 : ¬ x.ep < -1 := by omega
    have c2 : ¬ x.ep = -1 := by omega
    have ht : tE [] = -1 := rfl
    rw [ht]
    simp [folB, c1, c2]
  | some z =>
    obtain ⟨h1, h2, _⟩ := doc_find O hL 0 0 z hz
    rw [folB_some hz, h1]
    rw [h1] at h2
    rw [h2]
    have hpos : 0 < O.length := by
      rcases Nat.eq_zero_or_pos O.length with e | e
      · rw [List.eq_nil_of_length_eq_zero e] at hz; simp at hz
      · exact e
    have hlo : lastOff O = z.off := by
      unfold lastOff
      rw [List.length_map, List.getElem?_map] at hz
      cases hy : O[O.length - 1]? with
      | none => rw [hy] at hz; cases hz
      | some y => rw [hy] at hz; simp at hz; subst hz; rfl
    rw [hlo, Bool.eq_iff_iff]
    simp [hpos]
    omega
end Go.Proofs.Ytkdbclnnmpnfgaa

