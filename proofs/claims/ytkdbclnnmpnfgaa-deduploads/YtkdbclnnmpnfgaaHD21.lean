/- Load without memory: what is read; and what Keep wrote is read as it was. -/
import Derived.Test.YtkdbclnnmpnfgaaHD19
namespace Go.Proofs.Ytkdbclnnmpnfgaa
set_option linter.unusedSimpArgs false
set_option linter.unusedVariables false

theorem numI64 (s : RS) : I64 (numS s).1 := by
  unfold numS
  split
  · exact (readL_range s.rest).1
  · unfold I64; simp
def rdN (s : RS) : Nt × RS :=
  (⟨(numS s).1, (numS (numS s).2).1, (numS (numS (numS s).2).2).1, (numS (numS (numS (numS s).2).2).2).1⟩, (numS (numS (numS (numS s).2).2).2).2)
def rightNt (x : Nt) : Bool := (decide (1 ≤ x.n) && decide (x.n ≤ 64)) && inB x.ep && decide (0 ≤ x.seq) && decide (x.seq ≤ 1000000 - (x.n - 1)) && decide (0 ≤ x.off) && decide (x.off ≤ 1000000000 - (x.n - 1))
theorem rightNt_ok {x : Nt} : rightNt x = true ↔ NtOk x := by
  unfold rightNt inB
  simp
  constructor
  · rintro ⟨⟨⟨⟨⟨h1, h2⟩, h3⟩, h4⟩, h5⟩, h6⟩
    exact ⟨h2, h1, ⟨h3, h4⟩, ⟨h5, h6⟩⟩
  · rintro ⟨h1, h2, h3, h4⟩
    exact ⟨⟨⟨⟨⟨h2, h1⟩, h3.1⟩, h3.2⟩, h4.1⟩, h4.2⟩
def notesS : Nat → List Nt → RS → Option (List Nt) × RS
  | 0, acc, s => (some acc, s)
  | c + 1, acc, s => if (rightNt (rdN s).1 && folB acc (rdN s).1) = true then notesS c (acc ++ [(rdN s).1]) (rdN s).2 else (none, (rdN s).2)
def notesR (most : Int) (s : RS) : List Nt × RS :=
  ((match (notesS (countS most s).1.toNat [] (countS most s).2).1 with | some l => l | none => []), (notesS (countS most s).1.toNat [] (countS most s).2).2)
def badP (last pid : Int) (l : List Nt) : Bool := decide (pid ≤ last) || !inB pid || decide (l.length = 0)
def tabS (most : Int) : Nat → Int → Tb → RS → Option (Tb × RS)
  | 0, _, T, s => some (T, s)
  | c + 1, last, T, s =>
    if badP last (numS s).1 (notesR most (numS s).2).1 = true then none
    else tabS most c (numS s).1 (T ++ [((numS s).1, (notesR most (numS s).2).1)]) (notesR most (numS s).2).2
def loadR (rest : List UInt8) : Tb × Int :=
  match tabS (rest.length : Int) (countS (rest.length : Int) ⟨rest, false⟩).1.toNat 0 [] (countS (rest.length : Int) ⟨rest, false⟩).2 with
  | none => ([], 4)
  | some (T, s) => if doneS s = true then (T, 0) else ([], 4)
def loadL (b : List UInt8) : Tb × Int := if b.length < 4 then ([], 5) else if fourN b ≠ crcL (b.drop 4) then ([], 6) else loadR (b.drop 4)

/- What was written is read. -/
theorem num_back (n : Int) (hn : I64 n) (more : List UInt8) (wr : Bool) : numS ⟨intL n ++ more, wr⟩ = (n, ⟨more, wr⟩) := by
  unfold numS
  have h := readL_intL n more hn.1 hn.2
  simp only [h, if_true]
  simp
theorem i64c (n : Int) (h : 0 ≤ n ∧ n ≤ 1000000000000) : I64 n := by unfold I64; omega
theorem rdN_back (x : Nt) (hx : NtOk x) (more : List UInt8) (wr : Bool) : rdN ⟨noteB x ++ more, wr⟩ = (x, ⟨more, wr⟩) := by
  have h1 := hx.ep; have h2 := hx.n; have h3 := hx.seq; have h4 := hx.off
  have e : noteB x ++ more = intL x.ep ++ (intL x.seq ++ (intL x.n ++ (intL x.off ++ more))) := by simp [noteB, intsL]
  unfold rdN
  rw [e, num_back _ (i64c _ (by omega))]
  simp only
  rw [num_back _ (i64c _ (by omega))]
  simp only
  rw [num_back _ (i64c _ (by omega))]
  simp only
  rw [num_back _ (i64c _ (by omega))]
theorem LOk.fol {l : List Nt} {x : Nt} {r : List Nt} (h : LOk (l ++ x :: r)) : folB l x = true := by
  cases hz : l[l.length - 1]? with
  | none => unfold folB; rw [hz]
  | some z =>
    rw [folB_some hz]
    have hlt := (List.getElem?_eq_some_iff.1 hz).1
    have h1 : (l ++ x :: r)[l.length - 1]? = some z := by rw [List.getElem?_append_left hlt]; exact hz
    have h2 : (l ++ x :: r)[l.length]? = some x := by simp
    obtain ⟨a, b, c⟩ := h.at_lt h1 h2 (by omega)
    have d1 : decide (z.off < x.off) = true := decide_eq_true a
    have d2 : decide (z.ep ≤ x.ep) = true := decide_eq_true b
    rw [d1, d2]
    by_cases e : z.ep = x.ep
    · have d3 : decide (z.seq + z.n ≤ x.seq) = true := decide_eq_true (c e)
      rw [d3]; simp
    · have d3 : decide (z.ep < x.ep) = true := decide_eq_true (by omega)
      rw [d3]; simp
theorem notes_back : ∀ (l acc : List Nt) (more : List UInt8) (wr : Bool), LOk (acc ++ l) → notesS l.length acc ⟨notesB l ++ more, wr⟩ = (some (acc ++ l), ⟨more, wr⟩)
  | [], acc, more, wr, h => by simp [notesS, notesB]
  | x :: r, acc, more, wr, h => by
    have hx := h.all x (by simp)
    have e : notesB (x :: r) ++ more = noteB x ++ (notesB r ++ more) := by simp [notesB]
    rw [e]
    show (if (rightNt (rdN ⟨noteB x ++ (notesB r ++ more), wr⟩).1 && folB acc (rdN ⟨noteB x ++ (notesB r ++ more), wr⟩).1) = true then _ else _) = _
    rw [rdN_back x hx]
    simp only
    rw [rightNt_ok.2 hx, h.fol]
    simp only [Bool.and_true, if_true]
    have e2 : acc ++ x :: r = acc ++ [x] ++ r := by simp
    rw [notes_back r (acc ++ [x]) more wr (by rw [← e2]; exact h), e2]
theorem count_back (n : Nat) (most : Int) (h : (n : Int) ≤ most) (hm : most ≤ 1000000000) (more : List UInt8) (wr : Bool) : countS most ⟨intL (n : Int) ++ more, wr⟩ = ((n : Int), ⟨more, wr⟩) := by
  unfold countS
  rw [num_back _ (i64c _ (by omega))]
  simp only
  rw [if_neg (by omega)]
theorem notesR_back (l : List Nt) (hl : LOk l) (most : Int) (h : (l.length : Int) ≤ most) (hm : most ≤ 1000000000) (more : List UInt8) (wr : Bool) : notesR most ⟨intL (l.length : Int) ++ (notesB l ++ more), wr⟩ = (l, ⟨more, wr⟩) := by
  unfold notesR
  rw [count_back l.length most h hm]
  simp only [Int.toNat_natCast]
  rw [notes_back l [] more wr (by simpa using hl)]
  simp
theorem tab_back (most : Int) (hm : most ≤ 1000000000) : ∀ (T A : Tb) (last : Int) (more : List UInt8) (wr : Bool), (∀ p ∈ T, (1 ≤ p.1 ∧ p.1 ≤ 1000000000) ∧ p.2 ≠ [] ∧ LOk p.2 ∧ (p.2.length : Int) ≤ most) → T.Pairwise (fun p q => p.1 < q.1) → (∀ p ∈ T, last < p.1) →
    tabS most T.length last A ⟨tabB T ++ more, wr⟩ = some (A ++ T, ⟨more, wr⟩)
  | [], A, last, more, wr, _, _, _ => by simp [tabS, tabB]
  | p :: r, A, last, more, wr, h1, h2, h3 => by
    obtain ⟨a1, a2, a3, a4⟩ := h1 p (by simp)
    have a5 := h3 p (by simp)
    have h2' := List.pairwise_cons.1 h2
    have e : tabB (p :: r) ++ more = intL p.1 ++ (intL (p.2.length : Int) ++ (notesB p.2 ++ (tabB r ++ more))) := by simp [tabB, prodB, intsL]
    rw [e]
    show (if badP last (numS ⟨intL p.1 ++ (intL (p.2.length : Int) ++ (notesB p.2 ++ (tabB r ++ more))), wr⟩).1 _ = true then none else _) = _
    rw [num_back _ (i64c _ (by omega))]
    simp only
    rw [notesR_back p.2 a3 most a4 hm]
    simp only
    have hb : badP last p.1 p.2 = false := by
      have := List.length_pos_iff.2 a2
      have d1 : decide (p.1 ≤ last) = false := decide_eq_false (by omega)
      have d2 : inB p.1 = true := by unfold inB; simp; omega
      have d3 : decide (p.2.length = 0) = false := decide_eq_false (by omega)
      unfold badP
      rw [d1, d2, d3]; rfl
    rw [hb]
    simp only [Bool.false_eq_true, if_false]
    rw [tab_back most hm r (A ++ [(p.1, p.2)]) p.1 more wr (fun q hq => h1 q (by simp [hq])) h2'.2 h2'.1]
    simp
theorem len_notesB : ∀ l : List Nt, l.length ≤ (notesB l).length
  | [] => by simp
  | x :: r => by
    have := len_notesB r
    have h1 := (intL_length x.ep).1
    simp only [notesB, noteB, intsL, List.length_append, List.length_cons]; omega
theorem len_tabB : ∀ T : Tb, T.length ≤ (tabB T).length ∧ ∀ p ∈ T, p.2.length ≤ (tabB T).length
  | [] => by simp [tabB]
  | p :: r => by
    have h := len_tabB r
    have h1 := (intL_length p.1).1
    have h2 := len_notesB p.2
    refine ⟨?_, fun q hq => ?_⟩
    · simp only [tabB, prodB, intsL, List.length_append, List.length_cons]; omega
    · rcases List.mem_cons.1 hq with rfl | hq
      · simp only [tabB, prodB, List.length_append]; omega
      · have := h.2 q hq
        simp only [tabB, List.length_append]; omega
theorem load_back (T : Tb) (hT : TOk T) : loadL (keepB T) = (T, 0) := by
  have hlen := hT.len
  have hb := tabB_length T
  have hf := hT.few
  unfold keepB sealL loadL
  have h4 : (fourL (crcL (intL (T.length : Int) ++ tabB T))).length = 4 := rfl
  rw [if_neg (by rw [List.length_append]; omega), fourN_fourL _ _ (crcL_lt _)]
  have hd : (fourL (crcL (intL (T.length : Int) ++ tabB T)) ++ (intL (T.length : Int) ++ tabB T)).drop 4 = intL (T.length : Int) ++ tabB T := rfl
  rw [hd, if_neg (by simp)]
  have hl1 := (intL_length (T.length : Int))
  have hlt := len_tabB T
  have hL : (intL (T.length : Int) ++ tabB T).length ≤ 100000000 := by rw [List.length_append]; omega
  have hL2 : (tabB T).length ≤ (intL (T.length : Int) ++ tabB T).length := by rw [List.length_append]; omega
  unfold loadR
  rw [count_back T.length _ (by omega) (by omega)]
  simp only [Int.toNat_natCast]
  have := tab_back ((intL (T.length : Int) ++ tabB T).length : Int) (by omega) T [] 0 [] false (fun p hp => ⟨(hT.each p hp).1, (hT.each p hp).2.1, (hT.each p hp).2.2, by have := hlt.2 p hp; omega⟩) hT.rise (fun p hp => by have := (hT.each p hp).1; omega)
  rw [List.append_nil] at this
  rw [this]
  simp [doneS]
end Go.Proofs.Ytkdbclnnmpnfgaa

