/- Entries that are read one by one. -/
import Derived.Test.YtjggdecjnnpjaaaGreatH10
import Derived.Test.YtjggdecjnnpjaaaGreatH5
import Derived.Test.YtjggdecjnnpjaaaGreatH4
namespace Go.Proofs.YtjggdecjnnpjaaaGreat
set_option linter.unusedSimpArgs false
set_option linter.unusedVariables false

theorem pairs_add : ∀ (k j : Nat) (s : RS), pairsS (k + j) s = ((pairsS k s).1 ++ (pairsS j (pairsS k s).2).1, (pairsS j (pairsS k s).2).2)
  | 0, j, s => by simp [pairsS]
  | k + 1, j, s => by
    have e : k + 1 + j = (k + j) + 1 := by omega
    rw [e, pairs_step, pairs_add k j, pairs_step k]
    simp
theorem numS_wrong {s : RS} (h : s.wrong = true) : (numS s).2.wrong = true := by
  unfold numS
  split
  · exact h
  · rfl
theorem pairs_keep : ∀ (j : Nat) {s : RS}, s.wrong = true → (pairsS j s).2.wrong = true
  | 0, s, h => h
  | j + 1, s, h => pairs_keep j (numS_wrong (numS_wrong h))
theorem pairs_wrong {k n : Nat} {s : RS} (hk : k ≤ n) (h : (pairsS k s).2.wrong = true) : (pairsS n s).2.wrong = true := by
  obtain ⟨j, rfl⟩ : ∃ j, n = k + j := ⟨n - k, by omega⟩
  rw [pairs_add]
  exact pairs_keep j h
def lastE (l : List (Int × Int)) (e o : Int) : Int × Int := match l.getLast? with | none => (e, o) | some y => y
theorem lastE_cons (x : Int × Int) (l : List (Int × Int)) (e o : Int) : lastE (x :: l) e o = lastE l x.1 x.2 := by
  unfold lastE
  cases l with
  | nil => rfl
  | cons y r => rfl
theorem rise_app : ∀ (l m : List (Int × Int)) (e o : Int), riseB e o (l ++ m) = (riseB e o l && riseB (lastE l e o).1 (lastE l e o).2 m)
  | [], m, e, o => by simp [riseB, lastE]
  | x :: l, m, e, o => by
    rw [List.cons_append, lastE_cons]
    simp only [riseB, rise_app l m x.1 x.2, Bool.and_assoc]
theorem rise_one (e o : Int) (x : Int × Int) : riseB e o [x] = (decide (e < x.1) && decide (o < x.2) && inB x.1 && inB x.2) := by simp [riseB]
theorem rise_pre {k n : Nat} {s : RS} (hk : k ≤ n) (h : riseB (-1) (-1) (pairsS k s).1 = false) : riseB (-1) (-1) (pairsS n s).1 = false := by
  obtain ⟨j, rfl⟩ : ∃ j, n = k + j := ⟨n - k, by omega⟩
  rw [pairs_add]
  simp only
  rw [rise_app, h, Bool.false_and]
/-- What the bytes behind the sum are read as. -/
theorem eload_rest {b : List UInt8} (h4 : ¬ b.length < 4) (h5 : fourN b = crcL (b.drop 4)) :
    (((numS ⟨b.drop 4, false⟩).1 < 0 ∨ 200 < (numS ⟨b.drop 4, false⟩).1) → eload b = ([], 4)) ∧
    (∀ N : Nat, (numS ⟨b.drop 4, false⟩).1 = (N : Int) → N ≤ 200 → eload b = if doneS (pairsS N (numS ⟨b.drop 4, false⟩).2).2 && riseB (-1) (-1) (pairsS N (numS ⟨b.drop 4, false⟩).2).1 then ((pairsS N (numS ⟨b.drop 4, false⟩).2).1, 0) else ([], 4)) := by
  have e1 : eload b = if doneS (pairsS (countS 200 ⟨b.drop 4, false⟩).1.toNat (countS 200 ⟨b.drop 4, false⟩).2).2 && riseB (-1) (-1) (pairsS (countS 200 ⟨b.drop 4, false⟩).1.toNat (countS 200 ⟨b.drop 4, false⟩).2).1 then ((pairsS (countS 200 ⟨b.drop 4, false⟩).1.toNat (countS 200 ⟨b.drop 4, false⟩).2).1, 0) else ([], 4) := by
    unfold eload
    rw [if_neg h4, if_neg (fun h => h h5)]
  constructor
  · intro h
    have e2 : countS 200 ⟨b.drop 4, false⟩ = (0, spoiled) := by unfold countS; rw [if_pos h]
    rw [e1, e2]
    rfl
  · intro N hN hN2
    have e2 : countS 200 ⟨b.drop 4, false⟩ = numS ⟨b.drop 4, false⟩ := by unfold countS; rw [if_neg (by omega)]
    rw [e1, e2, hN, Int.toNat_natCast]
theorem eload_err {b : List UInt8} : (b.length < 4 → eload b = ([], 5)) ∧ (¬ b.length < 4 → fourN b ≠ crcL (b.drop 4) → eload b = ([], 6)) := by
  constructor
  · intro h; unfold eload; rw [if_pos h]
  · intro h h2; unfold eload; rw [if_neg h, if_pos h2]
theorem four_take {b : List UInt8} (h : ¬ b.length < 4) (c : Nat) (hc : c < 4294967296) : fourL c = b.take 4 ↔ fourN b = c := by
  constructor
  · intro h1
    have h2 : b = fourL c ++ b.drop 4 := by rw [h1, List.take_append_drop]
    rw [h2]
    exact fourN_fourL c _ hc
  · intro h1
    obtain ⟨b0, b1, b2, b3, r, rfl⟩ : ∃ b0 b1 b2 b3 r, b = b0 :: b1 :: b2 :: b3 :: r := by
      match b, h with
      | b0 :: b1 :: b2 :: b3 :: r, _ => exact ⟨b0, b1, b2, b3, r, rfl⟩
      | [], h => simp at h
      | [_], h => simp at h
      | [_, _], h => simp at h
      | [_, _, _], h => simp at h
    subst h1
    have h0 := b0.toNat_lt
    have h1 := b1.toNat_lt
    have h2 := b2.toNat_lt
    have h3 := b3.toNat_lt
    have e : ∀ (x : UInt8) (n : Nat), n % 256 = x.toNat → UInt8.ofNat n = x := fun x n hn => by
      apply UInt8.toNat_inj.1
      simpa using hn
    simp only [fourL, fourN, List.take_succ_cons, List.take_zero]
    rw [e b0 _ (by omega), e b1 _ (by omega), e b2 _ (by omega), e b3 _ (by omega)]
end Go.Proofs.YtjggdecjnnpjaaaGreat

/- The document's reader: Int, Text; and what they make of some bytes. -/
namespace Go.Proofs.YtjggdecjnnpjaaaGreat
open Go.RowKit Go.Maps
set_option linter.unusedSimpArgs false
set_option linter.unusedVariables false
set_option maxRecDepth 100000

/-- A text, as the document's reader takes it: what is wrong leaves the rest as it was. -/
def textR (most : Int) (s : RS) : List UInt8 × RS :=
  if (numS s).1 < 0 ∨ most < (numS s).1 ∨ ((numS s).2.rest.length : Int) < (numS s).1 then ([], ⟨(numS s).2.rest, true⟩)
  else ((numS s).2.rest.take (numS s).1.toNat, ⟨(numS s).2.rest.drop (numS s).1.toNat, (numS s).2.wrong⟩)

structure Rf (w : World) (q : Nat) (s : RS) : Prop where
  box : w.heap[q]? = some (.cells #[.string (strOf s.rest), .bool s.wrong] 94)
  len : s.rest.length ≤ maxLen
theorem Rf.c0 {w : World} {q : Nat} {s : RS} (h : Rf w q s) : w.cell? ⟨q, 0, none⟩ = some (.string (strOf s.rest)) := cell_blk h.box 0 _ rfl
theorem Rf.c1 {w : World} {q : Nat} {s : RS} (h : Rf w q s) : w.cell? ⟨q, 1, none⟩ = some (.bool s.wrong) := cell_blk h.box 1 _ rfl
theorem Rf.f {w : World} {q : Nat} {s : RS} (h : Rf w q s) (j : Nat) : w.frozen? ⟨q, j, none⟩ = false := frozen_blk h.box j
theorem Rf.lt {w : World} {q : Nat} {s : RS} (h : Rf w q s) : q < w.heap.size := by
  rcases Nat.lt_or_ge q w.heap.size with h1 | h1
  · exact h1
  · have := h.box; rw [Array.getElem?_eq_none h1] at this; cases this
theorem Rf.set0 {w : World} {q : Nat} {s : RS} (h : Rf w q s) (l : List UInt8) (hl : l.length ≤ maxLen) : Rf (w.setCell ⟨q, 0, none⟩ (.string (strOf l))) q ⟨l, s.wrong⟩ := by
  refine ⟨?_, hl⟩
  rw [setCell_eq_setRow w q 0 _ 94 (0, 0) _ h.box, setRow_heap w q _ _ 94 (0, 0) h.box]
  rfl
theorem Rf.set1 {w : World} {q : Nat} {s : RS} (h : Rf w q s) : Rf (w.setCell ⟨q, 1, none⟩ (.bool true)) q ⟨s.rest, true⟩ := by
  refine ⟨?_, h.len⟩
  rw [setCell_eq_setRow w q 1 _ 94 (0, 0) _ h.box, setRow_heap w q _ _ 94 (0, 0) h.box]
  rfl
theorem Rf.spoil {w : World} {q : Nat} {s : RS} (h : Rf w q s) : Rf ((w.setCell ⟨q, 1, none⟩ (.bool true)).setCell ⟨q, 0, none⟩ (.string ⟨#[]⟩)) q spoiled :=
  h.set1.set0 [] (by simp)
theorem Rf.kept {w w' : World} {q : Nat} {s : RS} (h : Rf w q s) (hb : w'.heap[q]? = w.heap[q]?) : Rf w' q s := ⟨hb.trans h.box, h.len⟩

set_option maxHeartbeats 800000 in
theorem rnumber_any {w : World} {q : Nat} {s : RS} (h : Rf w q s) : Calls Tryz.prog 48 #[.pointer (some ⟨q, 0, none⟩)] w fun e w' => e = .returned (.int .i64 (numS s).1) ∧ Rf w' q (numS s).2 ∧ w.grownBy w' (some q) := by
  have c0 := h.c0
  have c1 := h.c1
  have f0 := h.f 0
  have f1 := h.f 1
  have H11 := hid (rreadInt_any (strOf s.rest) w (by rw [strOf_size]; exact h.len))
  rw [strOf_data] at H11
  have hlen := h.len
  unfold maxLen at hlen
  have hrg := readL_range s.rest
  have HH := hid h
  have HN : Hid (numS s = if (readL s.rest).2.2 = 0 then ((readL s.rest).1, ⟨s.rest.drop (readL s.rest).2.1, s.wrong⟩) else (0, spoiled)) := rfl
  clear h
  have hsz := strOf_size s.rest
  generalize readL s.rest = R at *
  obtain ⟨n, k, e⟩ := R
  simp only at *
  obtain ⟨hn, hk, _⟩ := hrg
  by_cases he : e = 0
  · subst he
    have hx := extract_drop s.rest k
    have HF : Hid (numS s = (n, ⟨s.rest.drop k, s.wrong⟩)) := by show _ = _; rw [HN.out, if_pos rfl]
    have hk' : (k : Int) ≤ ((strOf s.rest).size : Int) := by rw [hsz]; omega
    have HD := hid (HH.out.set0 (s.rest.drop k) (by simp; unfold maxLen; omega))
    go_enter Tryz.func48, Tryz.ntmps48
    go_wp2_with (go_at_call 65; refine H11.out.mono ?_; rintro e w' ⟨rfl, rfl⟩)
    go_ret
    exact ⟨by rw [HF.out]; rfl, by rw [HF.out]; exact HD.out, Lib.grownBy_setCell _ q 0 _⟩
  · have hne : (e != 0) = true := by simp [he]
    have HF : Hid (numS s = (0, spoiled)) := by show _ = _; rw [HN.out, if_neg he]
    have HD := hid HH.out.spoil
    clear he
    go_enter Tryz.func48, Tryz.ntmps48
    go_wp2_with (go_at_call 65; refine H11.out.mono ?_; rintro e w' ⟨rfl, rfl⟩)
    go_ret
    exact ⟨by rw [HF.out]; rfl, by rw [HF.out]; exact HD.out, (Lib.grownBy_setCell _ q 1 _).trans (Lib.grownBy_setCell _ q 0 _)⟩

end Go.Proofs.YtjggdecjnnpjaaaGreat

