/- The document's Load: what its loops keep to, where Load takes the bytes, and where not. -/
import Derived.Test.YtkdbclnnmpnfgaaHL3
import Derived.Test.YtkdbclnnmpnfgaaHR2
namespace Go.Proofs.Ytkdbclnnmpnfgaa
set_option linter.unusedSimpArgs false
set_option linter.unusedVariables false

def lastPid (A : Tb) : Int := (A.getLast?.map (·.1)).getD 0
def lastNt (l : List Nt) : Nt := l.getLast?.getD was0
def mks (pid : Int) (l : List Nt) : List Mk := l.map fun x => (pid, x)
theorem lastPid_snoc (A : Tb) (p : Int × List Nt) : lastPid (A ++ [p]) = p.1 := by simp [lastPid]
theorem lastNt_snoc (l : List Nt) (x : Nt) : lastNt (l ++ [x]) = x := by simp [lastNt]
theorem flatT_snoc (A : Tb) (p : Int × List Nt) : flatT (A ++ [p]) = flatT A ++ mks p.1 p.2 := by
  rw [flatT_append, flatT_cons]
  simp [flatT, mks]
theorem tabB_snoc (A : Tb) (p : Int × List Nt) : tabB (A ++ [p]) = tabB A ++ prodB p := by
  rw [tabB_append]
  simp [tabB]
theorem notesB_snoc (l : List Nt) (x : Nt) : notesB (l ++ [x]) = notesB l ++ noteB x := by
  rw [notesB_append]
  simp [notesB]
/-- The mark may stand there, said twice. -/
theorem bad_right {l : List Nt} {x : Nt} (ho : LOk l) : badX l.length (lastNt l) x = false ↔ (rightNt x = true ∧ folB l x = true) := by
  rcases last_cases l with rfl | ⟨m, y, rfl⟩
  · have e1 : lastNt [] = was0 := rfl
    rw [folB_nil, e1]
    unfold badX was0
    constructor
    · intro h
      simp at h
      exact ⟨h.1.1, rfl⟩
    · rintro ⟨h, _⟩
      have hk := rightNt_ok.1 h
      have h1 := hk.off
      have h2 := hk.ep
      rw [h]
      have d1 : decide (x.off ≤ -1) = false := decide_eq_false (by omega)
      have d2 : decide (x.ep < 0) = false := decide_eq_false (by omega)
      simp [d1, d2]
  · have hl : (m ++ [y])[(m ++ [y]).length - 1]? = some y := by simp
    rw [lastNt_snoc, folB_some hl]
    unfold badX
    constructor
    · intro h
      simp only [Bool.or_eq_false_iff, Bool.not_eq_false', decide_eq_false_iff_not, Bool.and_eq_false_iff] at h
      obtain ⟨⟨⟨h1, h2⟩, h3⟩, h4⟩ := h
      refine ⟨h1, ?_⟩
      simp only [Bool.and_eq_true, Bool.or_eq_true, decide_eq_true_eq]
      have h5 : 0 < (m ++ [y]).length := by simp
      refine ⟨⟨by omega, by omega⟩, ?_⟩
      rcases h4 with (h4 | h4) | h4
      · exact absurd h5 h4
      · left; omega
      · right; omega
    · rintro ⟨h1, h2⟩
      simp only [Bool.and_eq_true, Bool.or_eq_true, decide_eq_true_eq] at h2
      simp only [Bool.or_eq_false_iff, Bool.not_eq_false', decide_eq_false_iff_not, Bool.and_eq_false_iff]
      refine ⟨⟨⟨h1, by omega⟩, by omega⟩, ?_⟩
      rcases h2.2 with h | h
      · left; right; omega
      · right; omega
/- Where Load takes the bytes. -/
def JOg (T : Tb) (i : Nat) (last : Int) (ms : List Mk) (s : RS) : Prop := ∃ A B : Tb, T = A ++ B ∧ A.length = i ∧ ms = flatT A ∧ s = ⟨tabB B, false⟩ ∧ last = lastPid A
def JIg (T : Tb) (i : Nat) (pid n : Int) (k : Nat) (was : Nt) (ms : List Mk) (s : RS) : Prop := ∃ (A : Tb) (p : Int × List Nt) (B : Tb) (l1 l2 : List Nt), T = A ++ p :: B ∧ A.length = i ∧ pid = p.1 ∧ n = (p.2.length : Int) ∧ p.2 = l1 ++ l2 ∧ l1.length = k ∧ ms = flatT A ++ mks pid l1 ∧ s = ⟨notesB l2 ++ tabB B, false⟩ ∧ was = lastNt l1
theorem rise_last {A B : Tb} {p : Int × List Nt} (hT : TOk (A ++ p :: B)) : lastPid A < p.1 := by
  have hp := (hT.each p (by simp)).1
  rcases List.eq_nil_or_concat A with rfl | ⟨A', a, rfl⟩
  · simp [lastPid]; omega
  · rw [List.concat_eq_append] at hT ⊢
    rw [lastPid_snoc]
    have h := hT.rise
    rw [List.append_assoc] at h
    have h2 := (List.pairwise_append.1 h).2.1
    have h3 := List.pairwise_cons.1 h2
    exact h3.1 p (by simp)
theorem head_g {T A B : Tb} {p : Int × List Nt} (hT : TOk T) (e : T = A ++ p :: B) : numS ⟨tabB (p :: B), false⟩ = (p.1, ⟨intL (p.2.length : Int) ++ (notesB p.2 ++ tabB B), false⟩) ∧ numS ⟨intL (p.2.length : Int) ++ (notesB p.2 ++ tabB B), false⟩ = ((p.2.length : Int), ⟨notesB p.2 ++ tabB B, false⟩) := by
  subst e
  have hp := (hT.each p (by simp)).1
  have hf := hT.few
  have hc : p.2.length ≤ cntT (A ++ p :: B) := by
    have : ∀ A : Tb, p.2.length ≤ cntT (A ++ p :: B) := by
      intro A
      induction A with
      | nil => simp [cntT]
      | cons a r ih => simp only [List.cons_append, cntT]; omega
    exact this A
  have e1 : tabB (p :: B) = intL p.1 ++ (intL (p.2.length : Int) ++ (notesB p.2 ++ tabB B)) := by simp [tabB, prodB, intsL]
  rw [e1]
  exact ⟨num_back _ (i64c _ (by omega)) _ _, num_back _ (i64c _ (by omega)) _ _⟩
theorem g1 {T : Tb} (hT : TOk T) (i : Nat) (last : Int) (ms : List Mk) (s : RS) (h : JOg T i last ms s) (hi : (i : Int) < (T.length : Int)) : ¬ ((numS s).1 ≤ last ∨ 1000000000 < (numS s).1 ∨ (numS (numS s).2).1 < 1) ∧ JIg T i (numS s).1 (numS (numS s).2).1 0 was0 ms (numS (numS s).2).2 := by
  obtain ⟨A, B, e, e1, e2, e3, e4⟩ := h
  cases B with
  | nil => subst e; simp at hi; omega
  | cons p B =>
    obtain ⟨n1, n2⟩ := head_g hT e
    rw [e3, n1]
    simp only
    rw [n2]
    simp only
    have hT2 := hT
    rw [e] at hT2
    have hr := rise_last hT2
    have hp := hT2.each p (by simp)
    have hl := List.length_pos_iff.2 hp.2.1
    refine ⟨by rw [e4]; omega, A, p, B, [], p.2, e, e1, rfl, rfl, rfl, rfl, by simp [mks, e2], rfl, rfl⟩
theorem g2 {T : Tb} (hT : TOk T) (i : Nat) (pid n : Int) (k : Nat) (was : Nt) (ms : List Mk) (s : RS) (h : JIg T i pid n k was ms s) (hk : (k : Int) < n) : badX k was (rdN s).1 = false ∧ JIg T i pid n (k + 1) (rdN s).1 (ms ++ [(pid, (rdN s).1)]) (rdN s).2 := by
  obtain ⟨A, p, B, l1, l2, e, e1, e2, e3, e4, e5, e6, e7, e8⟩ := h
  cases l2 with
  | nil => rw [e4] at e3; simp at e3; omega
  | cons x l2 =>
    have hp := (hT.each p (by rw [e]; simp)).2.2
    rw [e4] at hp
    have hx := hp.all x (by simp)
    have hr : rdN s = (x, ⟨notesB l2 ++ tabB B, false⟩) := by
      rw [e7]
      have : notesB (x :: l2) ++ tabB B = noteB x ++ (notesB l2 ++ tabB B) := by simp [notesB]
      rw [this]
      exact rdN_back x hx _ _
    rw [hr]
    simp only
    have ho1 : LOk l1 := hp.sub (List.sublist_append_left _ _)
    refine ⟨?_, A, p, B, l1 ++ [x], l2, e, e1, e2, e3, by rw [e4]; simp, by simp [e5], by rw [e6]; simp [mks], rfl, (lastNt_snoc _ _).symm⟩
    rw [e8, ← e5]
    exact (bad_right ho1).2 ⟨rightNt_ok.2 hx, hp.fol⟩
theorem g3 {T : Tb} (i : Nat) (pid n : Int) (k : Nat) (was : Nt) (ms : List Mk) (s : RS) (h : JIg T i pid n k was ms s) (hk : ¬ ((k : Int) < n ∧ s.wrong = false)) : JOg T (i + 1) pid ms s := by
  obtain ⟨A, p, B, l1, l2, e, e1, e2, e3, e4, e5, e6, e7, e8⟩ := h
  have hw : s.wrong = false := by rw [e7]
  have hl := congrArg List.length e4
  rw [List.length_append] at hl
  have h2 : l2 = [] := List.eq_nil_of_length_eq_zero (by
    have : ¬ (k : Int) < n := fun h => hk ⟨h, hw⟩
    omega)
  subst h2
  rw [List.append_nil] at e4
  refine ⟨A ++ [p], B, by rw [e]; simp, by simp [e1], by rw [e6, flatT_snoc, e2, e4], by rw [e7]; simp [notesB], by rw [e2, lastPid_snoc]⟩
theorem g4 {T : Tb} (i : Nat) (last : Int) (ms : List Mk) (s : RS) (h : JOg T i last ms s) (hi : ¬ ((i : Int) < (T.length : Int) ∧ s.wrong = false)) : s.wrong = false ∧ s.rest = [] ∧ ms = flatT T := by
  obtain ⟨A, B, e, e1, e2, e3, e4⟩ := h
  have hw : s.wrong = false := by rw [e3]
  have hl := congrArg List.length e
  rw [List.length_append] at hl
  have hB : B = [] := List.eq_nil_of_length_eq_zero (by
    have : ¬ (i : Int) < (T.length : Int) := fun h => hi ⟨h, hw⟩
    omega)
  subst hB
  rw [List.append_nil] at e
  exact ⟨hw, by rw [e3]; rfl, by rw [e2, e]⟩
/- Where Load does not. -/
structure OkA (A : Tb) : Prop where
  each : ∀ p ∈ A, (1 ≤ p.1 ∧ p.1 ≤ 1000000000) ∧ p.2 ≠ [] ∧ LOk p.2
  rise : A.Pairwise (fun p q => p.1 < q.1)
theorem last_le {A : Tb} (h : OkA A) : (∀ p ∈ A, p.1 ≤ lastPid A) ∧ 0 ≤ lastPid A := by
  rcases List.eq_nil_or_concat A with rfl | ⟨A', a, rfl⟩
  · simp [lastPid]
  · rw [List.concat_eq_append] at h ⊢
    rw [lastPid_snoc]
    have h2 := List.pairwise_append.1 h.rise
    refine ⟨fun p hp => ?_, ?_⟩
    · rcases List.mem_append.1 hp with hp | hp
      · have := h2.2.2 p hp a (by simp); omega
      · simp at hp; subst hp; exact Int.le_refl _
    · have := (h.each a (by simp)).1; omega
theorem OkA.snoc {A : Tb} {p : Int × List Nt} (h : OkA A) (h1 : 1 ≤ p.1 ∧ p.1 ≤ 1000000000) (h2 : p.2 ≠ []) (h3 : LOk p.2) (h4 : lastPid A < p.1) : OkA (A ++ [p]) := by
  refine ⟨fun q hq => ?_, List.pairwise_append.2 ⟨h.rise, by simp, fun q hq r hr => ?_⟩⟩
  · rcases List.mem_append.1 hq with hq | hq
    · exact h.each q hq
    · simp at hq; subst hq; exact ⟨h1, h2, h3⟩
  · simp at hr; subst hr
    have := (last_le h).1 q hq
    omega
def JOb (rest : List UInt8) (n0 : Int) (i : Nat) (last : Int) (ms : List Mk) (s : RS) : Prop := s.wrong = true ∨ ∃ A : Tb, rest = intL n0 ++ (tabB A ++ s.rest) ∧ A.length = i ∧ OkA A ∧ last = lastPid A ∧ ((i : Int) ≤ n0 ∨ i = 0)
def JIb (rest : List UInt8) (n0 : Int) (i : Nat) (pid n : Int) (k : Nat) (was : Nt) (ms : List Mk) (s : RS) : Prop := s.wrong = true ∨ ∃ (A : Tb) (l : List Nt), rest = intL n0 ++ (tabB A ++ (intL pid ++ (intL n ++ (notesB l ++ s.rest)))) ∧ A.length = i ∧ OkA A ∧ lastPid A < pid ∧ (1 ≤ pid ∧ pid ≤ 1000000000) ∧ 1 ≤ n ∧ LOk l ∧ l.length = k ∧ (k : Int) ≤ n ∧ was = lastNt l ∧ ((i : Int) + 1 ≤ n0)
theorem b1 {rest : List UInt8} {n0 : Int} (i : Nat) (last : Int) (ms : List Mk) (s : RS) (h : JOb rest n0 i last ms s) (hi : (i : Int) < n0) (hw : s.wrong = false) (hb : ¬ ((numS s).1 ≤ last ∨ 1000000000 < (numS s).1 ∨ (numS (numS s).2).1 < 1)) : JIb rest n0 i (numS s).1 (numS (numS s).2).1 0 was0 ms (numS (numS s).2).2 := by
  rcases h with h | ⟨A, e1, e2, e3, e4, e5⟩
  · rw [hw] at h; cases h
  · cases hq : (numS (numS s).2).2.wrong with
    | true => exact .inl hq
    | false =>
      obtain ⟨q1, q2⟩ := num_inv hq
      obtain ⟨q3, q4⟩ := num_inv q1
      have h0 := (last_le e3).2
      refine .inr ⟨A, [], ?_, e2, e3, by omega, ⟨by omega, by omega⟩, by omega, LOk.nil, rfl, by omega, rfl, by omega⟩
      rw [e1]
      conv => lhs; rw [q4, q2]
      simp [notesB]
theorem b2 {rest : List UInt8} {n0 : Int} (i : Nat) (pid n : Int) (k : Nat) (was : Nt) (ms : List Mk) (s : RS) (h : JIb rest n0 i pid n k was ms s) (hk : (k : Int) < n) (hw : s.wrong = false) (hb : badX k was (rdN s).1 = false) : JIb rest n0 i pid n (k + 1) (rdN s).1 (ms ++ [(pid, (rdN s).1)]) (rdN s).2 := by
  rcases h with h | ⟨A, l, e1, e2, e3, e4, e5, e6, e7, e8, e9, e10, e11⟩
  · rw [hw] at h; cases h
  · cases hq : (rdN s).2.wrong with
    | true => exact .inl hq
    | false =>
      obtain ⟨q1, q2⟩ := rdN_inv hq
      rw [e10, ← e8] at hb
      obtain ⟨r1, r2⟩ := (bad_right e7).1 hb
      refine .inr ⟨A, l ++ [(rdN s).1], ?_, e2, e3, e4, e5, e6, e7.snoc (rightNt_ok.1 r1) r2, by simp [e8], by omega, (lastNt_snoc _ _).symm, e11⟩
      rw [e1]
      conv => lhs; rw [q2]
      rw [notesB_snoc]
      simp
theorem b3 {rest : List UInt8} {n0 : Int} (i : Nat) (pid n : Int) (k : Nat) (was : Nt) (ms : List Mk) (s : RS) (h : JIb rest n0 i pid n k was ms s) (hk : ¬ ((k : Int) < n ∧ s.wrong = false)) : JOb rest n0 (i + 1) pid ms s := by
  rcases h with h | ⟨A, l, e1, e2, e3, e4, e5, e6, e7, e8, e9, e10, e11⟩
  · exact .inl h
  · cases hw : s.wrong with
    | true => exact .inl hw
    | false =>
      have hn : (l.length : Int) = n := by
        have : ¬ (k : Int) < n := fun h => hk ⟨h, hw⟩
        omega
      have hl : l ≠ [] := fun e => by rw [e] at hn; simp at hn; omega
      refine .inr ⟨A ++ [(pid, l)], ?_, by simp [e2], e3.snoc e5 hl e7 e4, by rw [lastPid_snoc], .inl (by omega)⟩
      rw [e1, tabB_snoc, ← hn]
      simp [prodB, intsL]
theorem b5 {b : List UInt8} {n0 : Int} (hb : b.length ≤ 100000) (h4 : ¬ b.length < 4) (h6 : fourN b = crcL (b.drop 4)) (hc : (loadL b).2 ≠ 0) (i : Nat) (last : Int) (ms : List Mk) (s : RS) (h : JOb (b.drop 4) n0 i last ms s) (hi : ¬ ((i : Int) < n0 ∧ s.wrong = false)) (hw : s.wrong = false) (hr : s.rest = []) (h0 : 0 ≤ n0) : False := by
  rcases h with h | ⟨A, e1, e2, e3, e4, e5⟩
  · rw [hw] at h; cases h
  · have hn : n0 = (A.length : Int) := by
      have : ¬ (i : Int) < n0 := fun h => hi ⟨h, hw⟩
      omega
    rw [hr, List.append_nil, hn] at e1
    have hk : b = keepB A := by
      unfold keepB sealL
      rw [← e1, ← h6]
      exact four_inv b (by omega)
    have hT : TOk A := ⟨e3.each, e3.rise, by
      have h1 := cnt_le A
      have h2 := congrArg List.length e1
      rw [List.length_append, List.length_drop] at h2
      omega⟩
    rw [hk, load_back A hT] at hc
    exact hc rfl
theorem b0 {rest : List UInt8} {n0 : Int} {s0 : RS} (h : numS ⟨rest, false⟩ = (n0, s0)) : JOb rest n0 0 0 [] s0 := by
  cases hq : s0.wrong with
  | true => exact .inl hq
  | false =>
    have h1 : (numS ⟨rest, false⟩).2.wrong = false := by rw [h]; exact hq
    have h2 := (num_inv h1).2
    rw [h] at h2
    exact .inr ⟨[], by simpa [tabB] using h2, rfl, ⟨by simp, List.Pairwise.nil⟩, rfl, .inr rfl⟩
end Go.Proofs.Ytkdbclnnmpnfgaa

