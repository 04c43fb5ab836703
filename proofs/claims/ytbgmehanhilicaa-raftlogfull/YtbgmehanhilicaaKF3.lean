/- RaftlogFull without memory: one entry more, or none. -/
import Derived.Test.YtbgmehanhilicaaKF2
import Derived.Test.YtbgmehanhilicaaKO1
namespace Go.Proofs.Ytbgmehanhilicaa
open Go.RowKit Go.Maps
set_option linter.unusedSimpArgs false
set_option linter.unusedVariables false

/-- The law's entry behind some. -/
def oneE (l : List Et) (n : Nat) : Et := ⟨1, (l.length : Int) + 1, List.replicate n 0⟩
theorem sL_last (l : List Et) (hok : LOk (sL l)) : (lastE (sL l)).i = (l.length : Int) := by
  have := hok.last
  rw [this]
  show (0 : Int) + (l.length : Int) = _
  omega
theorem sL_from (l : List Et) (h : l.length ≤ 1000000) : fromE (sL l) 1 1000000 = l := by
  have := from_all (s := sL l) (by simpa [sL] using h)
  simpa [sL, e0] using this
theorem sL_at_none (l : List Et) : atE (sL l) ((l.length : Int) + 1) = none := by
  unfold atE
  rw [if_pos (.inr (by simp [sL, e0]; omega))]
theorem sL_ahead (l : List Et) (ht : ∀ y ∈ l, y.t = 1) : (aheadE (sL l) ((l.length : Int) + 1)).t ≤ 1 := by
  unfold aheadE
  cases h : atE (sL l) ((l.length : Int) + 1 - 1) with
  | none => simp [sL, e0]
  | some y =>
    obtain ⟨k, _, _, h2, _⟩ := atE_some h
    have := ht y (List.mem_of_getElem? h2)
    simp
    omega
theorem put_oneE (free : Nat) (l : List Et) (n : Nat) (hok : LOk (sL l)) (ht : ∀ y ∈ l, y.t = 1) (hl : l.length ≤ 100000) (hn : n ≤ 300) :
    putE free (sL l) (l.length : Int) [oneE l n] = (0, sL (l ++ [oneE l n])) ∨ putE free (sL l) (l.length : Int) [oneE l n] = (7, sL l) := by
  have h1 := sL_last l hok
  have h2 := sL_at_none l
  have h3 := sL_ahead l ht
  have h4 : rightE (l.length : Int) 0 1 [oneE l n] = 0 := by
    have hb : badE (l.length : Int) 0 1 (oneE l n) = false := by
      have h0 : decide ((l.length : Int) + 1 ≠ (l.length : Int) + 1 + ((0 : Nat) : Int)) = false := decide_eq_false (by omega)
      have h1 : idB ((l.length : Int) + 1) = true := (idB_iff _).2 ⟨by omega, by omega⟩
      have h2 : idB 1 = true := by decide
      have h3 : decide ((1 : Int) < 1) = false := by decide
      show (decide ((l.length : Int) + 1 ≠ (l.length : Int) + 1 + ((0 : Nat) : Int)) || !idB ((l.length : Int) + 1) || !idB 1 || decide ((1 : Int) < 1)) = false
      rw [h0, h1, h2, h3]
      rfl
    simp [rightE, hb]
    simp [oneE]
    omega
  have h5 : unkE (sL l) [oneE l n] = [oneE l n] := by
    have hk : knownE (sL l) (oneE l n) = false := by
      unfold knownE
      have e : (oneE l n).i = (l.length : Int) + 1 := rfl
      rw [e, h2]
      have h0 : decide ((l.length : Int) + 1 ≤ (sL l).snap.i) = false := decide_eq_false (by show ¬ (l.length : Int) + 1 ≤ 0; omega)
      rw [h0]
      rfl
    simp [unkE, hk]
  unfold putE
  rw [if_neg (by rw [h1]; omega), if_neg (by rw [h4]; simp), h5]
  have e1 : (oneE l n).t = 1 := rfl
  have e2 : (oneE l n).i = (l.length : Int) + 1 := rfl
  simp only [e1, e2]
  rw [if_neg (by omega)]
  split
  · exact .inr rfl
  · left
    have e3 : ((l.length : Int) + 1 - ((sL l).snap.i + 1)).toNat = l.length := by simp [sL, e0]
    rw [e3]
    have e4 : (sL l).list.take l.length = l := by simp [sL]
    rw [e4]
    congr 1
    unfold sL
    simp
theorem oneE_t (l : List Et) (n : Nat) (ht : ∀ y ∈ l, y.t = 1) : ∀ y ∈ l ++ [oneE l n], y.t = 1 := by
  intro y hy
  rcases List.mem_append.1 hy with h | h
  · exact ht y h
  · simp at h; subst h; rfl
end Go.Proofs.Ytbgmehanhilicaa

