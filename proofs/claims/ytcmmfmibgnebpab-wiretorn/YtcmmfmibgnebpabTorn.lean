/- A batch's bytes that are cut, or changed: on lists. -/
import Derived.Test.YtcmmfmibgnebpabCodec
namespace Go.Proofs.Ytcmmfmibgnebpab
set_option linter.unusedSimpArgs false
set_option linter.unusedVariables false

theorem batchL_parts {b : Bat} (h : rightL b = 0) : (batchL b).1 = fourL (bodyL b).length ++ (fourL (crcL (bodyL b)) ++ bodyL b) := by
  unfold batchL; rw [if_pos h]; simp
theorem batchL_len {b : Bat} (h : rightL b = 0) : (batchL b).1.length = 8 + (bodyL b).length := by
  rw [batchL_parts h]; simp [fourL]; omega

theorem fourN_take (l m : List UInt8) (h : 4 ≤ l.length) : fourN (l ++ m) = fourN l := by
  match l, h with
  | a :: b :: c :: d :: r, _ => rfl

/-- Cut anywhere: too short. -/
theorem read_cut {b : Bat} (h : rightL b = 0) (k : Nat) (hk : k < (batchL b).1.length) : readBatchL ((batchL b).1.take k) = (zeroBat, 0, 5) := by
  have hl := batchL_len h
  obtain ⟨_, _, _, _, _, _, h7⟩ := rightL_ok h
  have hlen : ((batchL b).1.take k).length = k := by simp; omega
  unfold readBatchL
  by_cases h8 : k < 8
  · rw [if_pos (by omega)]
  · rw [if_neg (by omega)]
    have hf : fourN ((batchL b).1.take k) = (bodyL b).length := by
      have e : (batchL b).1 = (batchL b).1.take k ++ (batchL b).1.drop k := (List.take_append_drop _ _).symm
      have e2 := congrArg fourN e
      rw [fourN_take _ _ (by omega)] at e2
      rw [← e2, batchL_parts h]
      exact fourN_fourL _ _ (by omega)
    rw [hf, if_neg (by omega), if_pos (by omega)]

theorem fourN_other {a b c d a' b' c' d' : UInt8} {r s : List UInt8} (h : fourN (a :: b :: c :: d :: r) = fourN (a' :: b' :: c' :: d' :: s)) : a = a' ∧ b = b' ∧ c = c' ∧ d = d' := by
  simp only [fourN] at h
  have h0 := a.toNat_lt; have h1 := b.toNat_lt; have h2 := c.toNat_lt; have h3 := d.toNat_lt
  have g0 := a'.toNat_lt; have g1 := b'.toNat_lt; have g2 := c'.toNat_lt; have g3 := d'.toNat_lt
  refine ⟨UInt8.toNat_inj.1 ?_, UInt8.toNat_inj.1 ?_, UInt8.toNat_inj.1 ?_, UInt8.toNat_inj.1 ?_⟩ <;> omega

/-- One byte of the body, or of the checksum, that is another one: a wrong sum. -/
theorem read_set {b : Bat} (h : rightL b = 0) (k : Nat) (x : UInt8) (h4 : 4 ≤ k) (hk : k < (batchL b).1.length) (hx : x ≠ (batchL b).1[k]) : readBatchL ((batchL b).1.set k x) = (zeroBat, 0, 6) := by
  have hl := batchL_len h
  obtain ⟨_, _, _, _, _, _, h7⟩ := rightL_ok h
  obtain ⟨B, hB⟩ : ∃ B, B = bodyL b := ⟨_, rfl⟩
  have hp := batchL_parts h
  rw [← hB] at hl h7 hp
  have hC := crcL_lt B
  obtain ⟨c0, c1, c2, c3, hc⟩ : ∃ c0 c1 c2 c3, fourL (crcL B) = [c0, c1, c2, c3] := ⟨_, _, _, _, rfl⟩
  obtain ⟨f0, f1, f2, f3, hf⟩ : ∃ f0 f1 f2 f3, fourL B.length = [f0, f1, f2, f3] := ⟨_, _, _, _, rfl⟩
  have hcN : ∀ r, fourN (c0 :: c1 :: c2 :: c3 :: r) = crcL B := fun r => by
    have := fourN_fourL (crcL B) r hC
    rw [hc] at this; exact this
  have hfN : ∀ r, fourN (f0 :: f1 :: f2 :: f3 :: r) = B.length := fun r => by
    have := fourN_fourL B.length r (by omega)
    rw [hf] at this; exact this
  rw [hc, hf] at hp
  have hp' : (batchL b).1 = f0 :: f1 :: f2 :: f3 :: c0 :: c1 :: c2 :: c3 :: B := hp
  generalize (batchL b).1 = s at *
  subst hp'
  obtain ⟨k4, rfl⟩ : ∃ k4, k = k4 + 4 := ⟨k - 4, by omega⟩
  have e1 : (f0 :: f1 :: f2 :: f3 :: c0 :: c1 :: c2 :: c3 :: B).set (k4 + 4) x = f0 :: f1 :: f2 :: f3 :: (c0 :: c1 :: c2 :: c3 :: B).set k4 x := rfl
  have hk2 : k4 < B.length + 4 := by simp at hk; omega
  have hx2 : (c0 :: c1 :: c2 :: c3 :: B)[k4]? ≠ some x := by
    rw [List.getElem?_eq_getElem (by simp; omega)]
    intro e
    exact hx (Option.some.inj e).symm
  rw [e1]
  have hlen : (f0 :: f1 :: f2 :: f3 :: (c0 :: c1 :: c2 :: c3 :: B).set k4 x).length = 8 + B.length := by simp; omega
  unfold readBatchL
  rw [hfN, hlen, if_neg (by omega), if_neg (by omega), if_neg (by omega)]
  have hd : (f0 :: f1 :: f2 :: f3 :: (c0 :: c1 :: c2 :: c3 :: B).set k4 x).drop 4 = (c0 :: c1 :: c2 :: c3 :: B).set k4 x := rfl
  have hd8 : (f0 :: f1 :: f2 :: f3 :: (c0 :: c1 :: c2 :: c3 :: B).set k4 x).drop 8 = ((c0 :: c1 :: c2 :: c3 :: B).set k4 x).drop 4 := rfl
  rw [hd, hd8]
  have hne : fourN ((c0 :: c1 :: c2 :: c3 :: B).set k4 x) ≠ crcL ((((c0 :: c1 :: c2 :: c3 :: B).set k4 x).drop 4).take B.length) := by
    clear hlen hd hd8 e1 hx hk h4
    match k4, hx2, hk2 with
    | 0, hx', _ =>
      intro he
      have e : (((c0 :: c1 :: c2 :: c3 :: B).set 0 x).drop 4).take B.length = B := by simp
      rw [e, ← hcN B] at he
      exact hx' (by rw [(fourN_other he).1]; rfl)
    | 1, hx', _ =>
      intro he
      have e : (((c0 :: c1 :: c2 :: c3 :: B).set 1 x).drop 4).take B.length = B := by simp
      rw [e, ← hcN B] at he
      exact hx' (by rw [(fourN_other he).2.1]; rfl)
    | 2, hx', _ =>
      intro he
      have e : (((c0 :: c1 :: c2 :: c3 :: B).set 2 x).drop 4).take B.length = B := by simp
      rw [e, ← hcN B] at he
      exact hx' (by rw [(fourN_other he).2.2.1]; rfl)
    | 3, hx', _ =>
      intro he
      have e : (((c0 :: c1 :: c2 :: c3 :: B).set 3 x).drop 4).take B.length = B := by simp
      rw [e, ← hcN B] at he
      exact hx' (by rw [(fourN_other he).2.2.2]; rfl)
    | j + 4, hx', hj4 =>
      intro he
      have e0 : (c0 :: c1 :: c2 :: c3 :: B).set (j + 4) x = c0 :: c1 :: c2 :: c3 :: B.set j x := rfl
      have e : ((c0 :: c1 :: c2 :: c3 :: B.set j x).drop 4).take B.length = B.set j x := by
        show (B.set j x).take B.length = _
        rw [List.take_of_length_le (by simp)]
      rw [e0, e, hcN] at he
      have hj : j < B.length := by omega
      refine hx' ?_
      show B[j]? = some x
      rw [crcL_set B j x hj he.symm]
      exact List.getElem?_eq_getElem hj
  rw [if_pos hne]
end Go.Proofs.Ytcmmfmibgnebpab
