/- What is written of a message is read as it was; bytes that are cut, longer or changed are refused. -/
import Derived.Test.YtocdlaoklagdoaaDoorRi
namespace Go.Proofs.YtocdlaoklagdoaaDoor
set_option linter.unusedSimpArgs false
set_option linter.unusedVariables false

theorem textS_put (most : Int) (t more : List UInt8) (h : (t.length : Int) ≤ most) (hm : most ≤ 65528) : textS most ⟨textL t ++ more, false⟩ = (t, ⟨more, false⟩) := by
  have e : textL t ++ more = intL t.length ++ (t ++ more) := by simp [textL]
  unfold textS
  rw [e, countS_intL most t.length (t ++ more) ⟨by omega, by omega⟩ (by omega) h, if_neg (by simp; omega)]
  simp
theorem optN_putN (n : Int) (more : List UInt8) (h : I64 n) : optN (decide (n ≠ 0)) ⟨putN n ++ more, false⟩ = (n, ⟨more, false⟩) := by
  unfold optN putN
  by_cases h0 : n = 0
  · simp [h0]
  · simp only [h0, ne_eq, not_false_eq_true, decide_true, if_true, if_false]
    exact numS_intL n more h
theorem optT_putT (most : Int) (t more : List UInt8) (h : (t.length : Int) ≤ most) (hm : most ≤ 65528) : optT (decide (t ≠ [])) most ⟨putT t ++ more, false⟩ = (t, ⟨more, false⟩) := by
  unfold optT putT
  by_cases h0 : t = []
  · simp [h0]
  · simp only [h0, ne_eq, not_false_eq_true, decide_true, if_true, if_false]
    exact textS_put most t more h hm
theorem someS_take (p : Int) (l : List Int) (more : List UInt8) (hp : ∀ i (h : i < l.length), hasB p i = decide (l[i] ≠ 0)) (hi : ∀ n ∈ l, I64 n) : ∀ k, k ≤ l.length → someS p k ⟨putNs l ++ more, false⟩ = (l.take k, ⟨putNs (l.drop k) ++ more, false⟩)
  | 0, _ => by simp [someS]
  | k + 1, hk => by
    have ih := someS_take p l more hp hi k (by omega)
    have hr := hi l[k] (List.getElem_mem _)
    have e : putNs (l.drop k) ++ more = putN l[k] ++ (putNs (l.drop (k + 1)) ++ more) := by
      rw [List.drop_eq_getElem_cons (show k < l.length by omega)]
      simp [putNs]
    simp only [someS, ih, e, hp k (by omega), optN_putN l[k] _ hr]
    rw [List.take_succ_eq_append_getElem (show k < l.length by omega)]
theorem manyS_take {α : Type} (one : RS → α × RS) (enc : α → List UInt8) (encs : List α → List UInt8) (hc : ∀ a r, encs (a :: r) = enc a ++ encs r) (l : List α) (more : List UInt8) (h : ∀ a ∈ l, ∀ m, one ⟨enc a ++ m, false⟩ = (a, ⟨m, false⟩)) : ∀ k, k ≤ l.length → manyS one k ⟨encs l ++ more, false⟩ = (l.take k, ⟨encs (l.drop k) ++ more, false⟩)
  | 0, _ => by simp [manyS]
  | k + 1, hk => by
    have ih := manyS_take one enc encs hc l more h k (by omega)
    have hr := h l[k] (List.getElem_mem _)
    have e : encs (l.drop k) ++ more = enc l[k] ++ (encs (l.drop (k + 1)) ++ more) := by
      rw [List.drop_eq_getElem_cons (show k < l.length by omega), hc]
      simp
    simp only [manyS, ih, e, hr]
    rw [List.take_succ_eq_append_getElem (show k < l.length by omega)]
theorem optL_put {α : Type} (most : Int) (one : RS → α × RS) (enc : α → List UInt8) (encs : List α → List UInt8) (h0 : encs [] = []) (hc : ∀ a r, encs (a :: r) = enc a ++ encs r) (l : List α) (more : List UInt8) (h : ∀ a ∈ l, ∀ m, one ⟨enc a ++ m, false⟩ = (a, ⟨m, false⟩)) (hm : (l.length : Int) ≤ most) (hm2 : most ≤ 65528) : optL (decide (0 < l.length)) most one ⟨(putN l.length ++ encs l) ++ more, false⟩ = (l, ⟨more, false⟩) := by
  unfold optL
  by_cases hl : l = []
  · subst hl; simp [putN, h0]
  · have hp : 0 < l.length := List.length_pos_iff.2 hl
    rw [if_pos (by simpa using hp)]
    unfold listS
    have e : (putN l.length ++ encs l) ++ more = intL l.length ++ (encs l ++ more) := by unfold putN; rw [if_neg (by omega)]; simp
    rw [e, countS_intL most l.length _ ⟨by omega, by omega⟩ (by omega) hm]
    have := manyS_take one enc encs hc l more h l.length (Nat.le_refl _)
    simpa [h0] using this
theorem batS_batchL (b : Bat) (more : List UInt8) (hb : I64 b.base) (h : rightL b = 0) : batS ⟨(batchL b).1 ++ more, false⟩ = (b, ⟨more, false⟩) := by
  unfold batS
  simp [readBatchL_batchL b more hb h]
theorem entRight_ok {e : Ent} (h : entRight e = 0) : 0 ≤ e.term ∧ e.term ≤ 1000000000 ∧ 0 ≤ e.index ∧ e.index ≤ 1000000000 ∧ e.data.length ≤ 2048 := by
  unfold entRight at h
  split at h
  · cases h
  · split at h
    · cases h
    · omega
theorem entS_entL (x : Ent) (more : List UInt8) (h : entRight x = 0) : entS ⟨entL x ++ more, false⟩ = (x, ⟨more, false⟩) := by
  obtain ⟨h1, h2, h3, h4, h5⟩ := entRight_ok h
  have e : entL x ++ more = intL x.term ++ (intL x.index ++ (textL x.data ++ more)) := by simp [entL, intsL]
  unfold entS
  rw [e, numS_intL _ _ ⟨by omega, by omega⟩]
  simp only
  rw [numS_intL _ _ ⟨by omega, by omega⟩]
  simp only
  rw [textS_put 2048 _ _ (by omega) (by omega)]

theorem partsS_bodyM (m : Msg) (hk : m.ok) (h : rightP m = 0) (ht : m.text.length ≤ 65528) : partsS ⟨bodyM m, false⟩ = (m, ⟨[], false⟩) := by
  obtain ⟨r1, r2, r3, r4, r5, r6, r7⟩ := rightP_zero h
  have hs := sumL_lt m
  have e : bodyM m = intL m.kind ++ (intL (sumL m : Nat) ++ (putNs (nums m) ++ (putN m.err ++ (putT m.name ++ (putT m.text ++ ((putN m.bats.length ++ batsL m.bats) ++ ((putN m.ents.length ++ entsL m.ents) ++ ((putN m.ints.length ++ intsL m.ints) ++ [])))))))) := by
    simp [bodyM, intsL, partsL, tail14, tail15, tail16, tail17, tail18, tail19, putB, putE, putI]
  have hp : ∀ i (h : i < (nums m).length), hasB (sumL m : Nat) i = decide ((nums m)[i] ≠ 0) := fun i hi => by
    rw [has_sum m i]
    have h14 : (nums m).length = 14 := rfl
    unfold there
    rw [List.getD_eq_getElem?_getD, List.getElem?_append_left (by simpa using hi)]
    simp [hi]
  have b14 : hasB (sumL m : Nat) 14 = decide (m.err ≠ 0) := has_sum m 14
  have b15 : hasB (sumL m : Nat) 15 = decide (m.name ≠ []) := has_sum m 15
  have b16 : hasB (sumL m : Nat) 16 = decide (m.text ≠ []) := has_sum m 16
  have b17 : hasB (sumL m : Nat) 17 = decide (0 < m.bats.length) := has_sum m 17
  have b18 : hasB (sumL m : Nat) 18 = decide (0 < m.ents.length) := has_sum m 18
  have b19 : hasB (sumL m : Nat) 19 = decide (0 < m.ints.length) := has_sum m 19
  unfold partsS
  rw [e]
  simp only [numS_intL _ _ hk.kind]
  rw [numS_intL _ _ (show I64 ((sumL m : Nat) : Int) from ⟨by omega, by omega⟩)]
  simp only [b14, b15, b16, b17, b18, b19]
  rw [show (14 : Nat) = (nums m).length from rfl, someS_take _ (nums m) _ hp hk.nums _ (Nat.le_refl _)]
  simp only [List.take_length, List.drop_length, putNs, List.nil_append]
  rw [optN_putN _ _ hk.err]
  simp only
  rw [optT_putT 32 _ _ (by omega) (by omega)]
  simp only
  rw [optT_putT 65528 _ _ (by omega) (by omega)]
  simp only
  rw [optL_put 64 batS (fun b => (batchL b).1) batsL rfl (fun _ _ => rfl) m.bats _ (fun b hb more => batS_batchL b more (hk.bats b hb).h0 (r6 b hb)) (by omega) (by omega)]
  simp only
  rw [optL_put 64 entS entL entsL rfl (fun _ _ => rfl) m.ents _ (fun b hb more => entS_entL b more (r7 b hb)) (by omega) (by omega)]
  simp only
  rw [optL_put 256 numS intL intsL rfl (fun _ _ => rfl) m.ints _ (fun b hb more => numS_intL b more (hk.ints b hb)) (by omega) (by omega)]
  rfl

theorem rightM_zero {m : Msg} (h : (rightM m).2 = 0) : rightP m = 0 ∧ m.text.length ≤ 65528 ∧ (bodyM m).length ≤ 65528 ∧ rightM m = (bodyM m, 0) := by
  unfold rightM at h ⊢
  by_cases h1 : rightP m = 0
  · rw [if_pos h1] at h ⊢
    by_cases h2 : 65528 < m.text.length
    · rw [if_pos h2] at h; cases h
    rw [if_neg h2] at h ⊢
    by_cases h3 : 65528 < (bodyM m).length
    · rw [if_pos h3] at h; cases h
    rw [if_neg h3]
    exact ⟨h1, by omega, by omega, rfl⟩
  · rw [if_neg h1] at h
    exact absurd h h1
theorem bodyR_bodyM (m : Msg) (hk : m.ok) (h : (rightM m).2 = 0) : bodyR (bodyM m) = (m, true) := by
  obtain ⟨h1, h2, h3, h4⟩ := rightM_zero h
  unfold bodyR
  rw [partsS_bodyM m hk h1 h2, h4]
  simp [doneS]
theorem encodeL_zero {m : Msg} (h : (rightM m).2 = 0) : encodeL m = (frameL (bodyM m), 0) := by
  unfold encodeL
  rw [if_pos h, (rightM_zero h).2.2.2]
theorem encodeL_not {m : Msg} (h : (rightM m).2 ≠ 0) : encodeL m = ([], (rightM m).2) := by
  unfold encodeL
  rw [if_neg h]
theorem frameL_len (l : List UInt8) : (frameL l).length = 8 + l.length := by simp [frameL, fourL]; omega
theorem decodeL_frameL (l : List UInt8) (hl : l.length ≤ 65528) : decodeL (frameL l) = if (bodyR l).2 = false then (zeroMsg, 4) else ((bodyR l).1, 0) := by
  have hc := crcL_lt l
  have f1 : fourN (frameL l) = l.length := fourN_fourL _ _ (by omega)
  have f2 : (frameL l).drop 4 = fourL (crcL l) ++ l := rfl
  have f3 : (frameL l).drop 8 = l := rfl
  have f4 : fourN (fourL (crcL l) ++ l) = crcL l := fourN_fourL _ _ hc
  have f6 := frameL_len l
  unfold decodeL
  rw [f1, f2, f3, f4, f6, if_neg (by omega), if_neg (by omega), if_neg (by omega), if_neg (by omega), if_neg (by simp)]
theorem decodeL_encodeL (m : Msg) (hk : m.ok) (h : (rightM m).2 = 0) : decodeL (encodeL m).1 = (m, 0) := by
  rw [encodeL_zero h, decodeL_frameL _ (rightM_zero h).2.2.1, bodyR_bodyM m hk h]
  simp
/-- Two messages that may be and have the same bytes are the same. -/
theorem encodeL_inj (m k : Msg) (hm : m.ok) (hk : k.ok) (h1 : (rightM m).2 = 0) (h2 : (rightM k).2 = 0) (e : (encodeL m).1 = (encodeL k).1) : m = k := by
  have a := decodeL_encodeL m hm h1
  rw [e, decodeL_encodeL k hk h2] at a
  exact (Prod.ext_iff.1 a).1.symm

/- Cut, longer, changed. -/
theorem fourN_take (l m : List UInt8) (h : 4 ≤ l.length) : fourN (l ++ m) = fourN l := by
  match l, h with
  | a :: b :: c :: d :: r, _ => rfl
theorem decode_cut (B : List UInt8) (hB : B.length ≤ 65528) (k : Nat) (hk : k < (frameL B).length) : decodeL ((frameL B).take k) = (zeroMsg, 5) := by
  have hl := frameL_len B
  have hlen : ((frameL B).take k).length = k := by simp; omega
  unfold decodeL
  by_cases h8 : k < 8
  · rw [if_pos (by omega)]
  · rw [if_neg (by omega)]
    have hf : fourN ((frameL B).take k) = B.length := by
      have e : (frameL B) = (frameL B).take k ++ (frameL B).drop k := (List.take_append_drop _ _).symm
      have e2 := congrArg fourN e
      rw [fourN_take _ _ (by omega)] at e2
      rw [← e2]
      exact fourN_fourL _ _ (by omega)
    rw [hf, if_neg (by omega), if_pos (by rw [List.length_drop]; omega)]
theorem decode_more (B more : List UInt8) (hB : B.length ≤ 65528) (hm : more ≠ []) : decodeL (frameL B ++ more) = (zeroMsg, 4) := by
  have hl := frameL_len B
  have hp : 0 < more.length := List.length_pos_iff.2 hm
  have hf : fourN (frameL B ++ more) = B.length := by
    rw [fourN_take _ _ (by omega)]
    exact fourN_fourL _ _ (by omega)
  unfold decodeL
  rw [hf, if_neg (by simp; omega), if_neg (by omega), if_neg (by simp; omega), if_pos (by simp; omega)]
theorem fourN_other {a b c d a' b' c' d' : UInt8} {r s : List UInt8} (h : fourN (a :: b :: c :: d :: r) = fourN (a' :: b' :: c' :: d' :: s)) : a = a' ∧ b = b' ∧ c = c' ∧ d = d' := by
  simp only [fourN] at h
  have h0 := a.toNat_lt; have h1 := b.toNat_lt; have h2 := c.toNat_lt; have h3 := d.toNat_lt
  have g0 := a'.toNat_lt; have g1 := b'.toNat_lt; have g2 := c'.toNat_lt; have g3 := d'.toNat_lt
  refine ⟨UInt8.toNat_inj.1 ?_, UInt8.toNat_inj.1 ?_, UInt8.toNat_inj.1 ?_, UInt8.toNat_inj.1 ?_⟩ <;> omega
theorem decode_set (B : List UInt8) (hB : B.length ≤ 65528) (k : Nat) (x : UInt8) (h4 : 4 ≤ k) (hk : k < (frameL B).length) (hx : x ≠ (frameL B)[k]) : decodeL ((frameL B).set k x) = (zeroMsg, 6) := by
  have hl := frameL_len B
  have hC := crcL_lt B
  obtain ⟨c0, c1, c2, c3, hc⟩ : ∃ c0 c1 c2 c3, fourL (crcL B) = [c0, c1, c2, c3] := ⟨_, _, _, _, rfl⟩
  obtain ⟨f0, f1, f2, f3, hf⟩ : ∃ f0 f1 f2 f3, fourL B.length = [f0, f1, f2, f3] := ⟨_, _, _, _, rfl⟩
  have hcN : ∀ r, fourN (c0 :: c1 :: c2 :: c3 :: r) = crcL B := fun r => by
    have := fourN_fourL (crcL B) r hC
    rw [hc] at this; exact this
  have hfN : ∀ r, fourN (f0 :: f1 :: f2 :: f3 :: r) = B.length := fun r => by
    have := fourN_fourL B.length r (by omega)
    rw [hf] at this; exact this
  have hp' : frameL B = f0 :: f1 :: f2 :: f3 :: c0 :: c1 :: c2 :: c3 :: B := by unfold frameL; rw [hc, hf]; rfl
  generalize frameL B = s at *
  subst hp'
  obtain ⟨k4, rfl⟩ : ∃ k4, k = k4 + 4 := ⟨k - 4, by omega⟩
  have e1 : (f0 :: f1 :: f2 :: f3 :: c0 :: c1 :: c2 :: c3 :: B).set (k4 + 4) x = f0 :: f1 :: f2 :: f3 :: (c0 :: c1 :: c2 :: c3 :: B).set k4 x := rfl
  have hk2 : k4 < B.length + 4 := by simp at hk; omega
  have hx2 : (c0 :: c1 :: c2 :: c3 :: B)[k4]? ≠ some x := by
    rw [List.getElem?_eq_getElem (by simp; omega)]
    intro e
    exact hx (Option.some.inj e).symm
  rw [e1]
  have hlen : (f0 :: f1 :: f2 :: f3 :: (c0 :: c1 :: c2 :: c3 :: B).set k4 x).length = 8 + B.length := by simp; omega
  have hd : (f0 :: f1 :: f2 :: f3 :: (c0 :: c1 :: c2 :: c3 :: B).set k4 x).drop 4 = (c0 :: c1 :: c2 :: c3 :: B).set k4 x := rfl
  have hd8 : (f0 :: f1 :: f2 :: f3 :: (c0 :: c1 :: c2 :: c3 :: B).set k4 x).drop 8 = ((c0 :: c1 :: c2 :: c3 :: B).set k4 x).drop 4 := rfl
  have hl8 : (((c0 :: c1 :: c2 :: c3 :: B).set k4 x).drop 4).length = B.length := by simp
  unfold decodeL
  rw [hfN, hlen, hd, hd8, hl8, if_neg (by omega), if_neg (by omega), if_neg (by omega), if_neg (by omega)]
  have hne : crcL (((c0 :: c1 :: c2 :: c3 :: B).set k4 x).drop 4) ≠ fourN ((c0 :: c1 :: c2 :: c3 :: B).set k4 x) := by
    clear hlen hd hd8 hl8 e1 hx hk h4
    match k4, hx2, hk2 with
    | 0, hx', _ =>
      intro he
      have e : ((c0 :: c1 :: c2 :: c3 :: B).set 0 x).drop 4 = B := by simp
      rw [e, ← hcN B] at he
      exact hx' (by rw [← (fourN_other he).1]; rfl)
    | 1, hx', _ =>
      intro he
      have e : ((c0 :: c1 :: c2 :: c3 :: B).set 1 x).drop 4 = B := by simp
      rw [e, ← hcN B] at he
      exact hx' (by rw [← (fourN_other he).2.1]; rfl)
    | 2, hx', _ =>
      intro he
      have e : ((c0 :: c1 :: c2 :: c3 :: B).set 2 x).drop 4 = B := by simp
      rw [e, ← hcN B] at he
      exact hx' (by rw [← (fourN_other he).2.2.1]; rfl)
    | 3, hx', _ =>
      intro he
      have e : ((c0 :: c1 :: c2 :: c3 :: B).set 3 x).drop 4 = B := by simp
      rw [e, ← hcN B] at he
      exact hx' (by rw [← (fourN_other he).2.2.2]; rfl)
    | j + 4, hx', hj4 =>
      intro he
      have e0 : (c0 :: c1 :: c2 :: c3 :: B).set (j + 4) x = c0 :: c1 :: c2 :: c3 :: B.set j x := rfl
      have e : (c0 :: c1 :: c2 :: c3 :: B.set j x).drop 4 = B.set j x := rfl
      rw [e0, e, hcN] at he
      have hj : j < B.length := by omega
      refine hx' ?_
      show B[j]? = some x
      rw [crcL_set B j x hj he]
      exact List.getElem?_eq_getElem hj
  rw [if_pos hne]
end Go.Proofs.YtocdlaoklagdoaaDoor
