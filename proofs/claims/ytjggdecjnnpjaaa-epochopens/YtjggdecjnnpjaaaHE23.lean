/- Entries that are read one by one. -/
import Derived.Test.YtjggdecjnnpjaaaH12
namespace Go.Proofs.Ytjggdecjnnpjaaa
set_option linter.unusedSimpArgs false
set_option linter.unusedVariables false

theorem pairs_add : ∀ (k j : Nat) (s : RS), pairsS (k + j) s = ((pairsS k s).1 ++ (pairsS j (pairsS k s).2).1, (pairsS j (pairsS k s).2).2)
  | 0, j, s => by simp [pairsS]
  | k + 1, j, s => by
    have e : k + 1 + j = (k + j) + 1 := by omega
    rw [e, pairs_step, pairs_add k j, pairs_step k]
    simp
theorem numS_wrong {s : RS} (h : s.wrong = true) : (numS s).2.wrong = true := by
  unfold numS
  split
  · exact h
  · rfl
theorem pairs_keep : ∀ (j : Nat) {s : RS}, s.wrong = true → (pairsS j s).2.wrong = true
  | 0, s, h => h
  | j + 1, s, h => pairs_keep j (numS_wrong (numS_wrong h))
theorem pairs_wrong {k n : Nat} {s : RS} (hk : k ≤ n) (h : (pairsS k s).2.wrong = true) : (pairsS n s).2.wrong = true := by
  obtain ⟨j, rfl⟩ : ∃ j, n = k + j := ⟨n - k, by omega⟩
  rw [pairs_add]
  exact pairs_keep j h
def lastE (l : List (Int × Int)) (e o : Int) : Int × Int := match l.getLast? with | none => (e, o) | some y => y
theorem lastE_cons (x : Int × Int) (l : List (Int × Int)) (e o : Int) : lastE (x :: l) e o = lastE l x.1 x.2 := by
  unfold lastE
  cases l with
  | nil => rfl
  | cons y r => rfl
theorem rise_app : ∀ (l m : List (Int × Int)) (e o : Int), riseB e o (l ++ m) = (riseB e o l && riseB (lastE l e o).1 (lastE l e o).2 m)
  | [], m, e, o => by simp [riseB, lastE]
  | x :: l, m, e, o => by
    rw [List.cons_append, lastE_cons]
    simp only [riseB, rise_app l m x.1 x.2, Bool.and_assoc]
theorem rise_one (e o : Int) (x : Int × Int) : riseB e o [x] = (decide (e < x.1) && decide (o < x.2) && inB x.1 && inB x.2) := by simp [riseB]
theorem rise_pre {k n : Nat} {s : RS} (hk : k ≤ n) (h : riseB (-1) (-1) (pairsS k s).1 = false) : riseB (-1) (-1) (pairsS n s).1 = false := by
  obtain ⟨j, rfl⟩ : ∃ j, n = k + j := ⟨n - k, by omega⟩
  rw [pairs_add]
  simp only
  rw [rise_app, h, Bool.false_and]
/-- What the bytes behind the sum are read as. -/
theorem eload_rest {b : List UInt8} (h4 : ¬ b.length < 4) (h5 : fourN b = crcL (b.drop 4)) :
    (((numS ⟨b.drop 4, false⟩).1 < 0 ∨ 200 < (numS ⟨b.drop 4, false⟩).1) → eload b = ([], 4)) ∧
    (∀ N : Nat, (numS ⟨b.drop 4, false⟩).1 = (N : Int) → N ≤ 200 → eload b = if doneS (pairsS N (numS ⟨b.drop 4, false⟩).2).2 && riseB (-1) (-1) (pairsS N (numS ⟨b.drop 4, false⟩).2).1 then ((pairsS N (numS ⟨b.drop 4, false⟩).2).1, 0) else ([], 4)) := by
  have e1 : eload b = if doneS (pairsS (countS 200 ⟨b.drop 4, false⟩).1.toNat (countS 200 ⟨b.drop 4, false⟩).2).2 && riseB (-1) (-1) (pairsS (countS 200 ⟨b.drop 4, false⟩).1.toNat (countS 200 ⟨b.drop 4, false⟩).2).1 then ((pairsS (countS 200 ⟨b.drop 4, false⟩).1.toNat (countS 200 ⟨b.drop 4, false⟩).2).1, 0) else ([], 4) := by
    unfold eload
    rw [if_neg h4, if_neg (fun h => h h5)]
  constructor
  · intro h
    have e2 : countS 200 ⟨b.drop 4, false⟩ = (0, spoiled) := by unfold countS; rw [if_pos h]
    rw [e1, e2]
    rfl
  · intro N hN hN2
    have e2 : countS 200 ⟨b.drop 4, false⟩ = numS ⟨b.drop 4, false⟩ := by unfold countS; rw [if_neg (by omega)]
    rw [e1, e2, hN, Int.toNat_natCast]
theorem eload_err {b : List UInt8} : (b.length < 4 → eload b = ([], 5)) ∧ (¬ b.length < 4 → fourN b ≠ crcL (b.drop 4) → eload b = ([], 6)) := by
  constructor
  · intro h; unfold eload; rw [if_pos h]
  · intro h h2; unfold eload; rw [if_neg h, if_pos h2]
theorem four_take {b : List UInt8} (h : ¬ b.length < 4) (c : Nat) (hc : c < 4294967296) : fourL c = b.take 4 ↔ fourN b = c := by
  constructor
  · intro h1
    have h2 : b = fourL c ++ b.drop 4 := by rw [h1, List.take_append_drop]
    rw [h2]
    exact fourN_fourL c _ hc
  · intro h1
    obtain ⟨b0, b1, b2, b3, r, rfl⟩ : ∃ b0 b1 b2 b3 r, b = b0 :: b1 :: b2 :: b3 :: r := by
      match b, h with
      | b0 :: b1 :: b2 :: b3 :: r, _ => exact ⟨b0, b1, b2, b3, r, rfl⟩
      | [], h => simp at h
      | [_], h => simp at h
      | [_, _], h => simp at h
      | [_, _, _], h => simp at h
    subst h1
    have h0 := b0.toNat_lt
    have h1 := b1.toNat_lt
    have h2 := b2.toNat_lt
    have h3 := b3.toNat_lt
    have e : ∀ (x : UInt8) (n : Nat), n % 256 = x.toNat → UInt8.ofNat n = x := fun x n hn => by
      apply UInt8.toNat_inj.1
      simpa using hn
    simp only [fourL, fourN, List.take_succ_cons, List.take_zero]
    rw [e b0 _ (by omega), e b1 _ (by omega), e b2 _ (by omega), e b3 _ (by omega)]
end Go.Proofs.Ytjggdecjnnpjaaa

