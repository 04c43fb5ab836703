/- The document's reader: Int, Text; and what they make of some bytes. -/
import Derived.Test.YtocdlaoklagdoaaDoorRbatch
import Derived.Test.YtocdlaoklagdoaaDoorRread
import Derived.Test.YtocdlaoklagdoaaDoorPb
import Derived.Test.YtocdlaoklagdoaaDoorDe
import Derived.Test.YtocdlaoklagdoaaDoorWb
namespace Go.Proofs.YtocdlaoklagdoaaDoor
open Go.RowKit Go.Maps
set_option linter.unusedSimpArgs false
set_option linter.unusedVariables false
set_option maxRecDepth 100000

/-- A text, as the document's reader takes it: what is wrong leaves the rest as it was. -/
def textR (most : Int) (s : RS) : List UInt8 × RS :=
  if (numS s).1 < 0 ∨ most < (numS s).1 ∨ ((numS s).2.rest.length : Int) < (numS s).1 then ([], ⟨(numS s).2.rest, true⟩)
  else ((numS s).2.rest.take (numS s).1.toNat, ⟨(numS s).2.rest.drop (numS s).1.toNat, (numS s).2.wrong⟩)

structure Rf (w : World) (q : Nat) (s : RS) : Prop where
  box : w.heap[q]? = some (.cells #[.string (strOf s.rest), .bool s.wrong] 59)
  len : s.rest.length ≤ maxLen
theorem Rf.c0 {w : World} {q : Nat} {s : RS} (h : Rf w q s) : w.cell? ⟨q, 0, none⟩ = some (.string (strOf s.rest)) := cell_blk h.box 0 _ rfl
theorem Rf.c1 {w : World} {q : Nat} {s : RS} (h : Rf w q s) : w.cell? ⟨q, 1, none⟩ = some (.bool s.wrong) := cell_blk h.box 1 _ rfl
theorem Rf.f {w : World} {q : Nat} {s : RS} (h : Rf w q s) (j : Nat) : w.frozen? ⟨q, j, none⟩ = false := frozen_blk h.box j
theorem Rf.lt {w : World} {q : Nat} {s : RS} (h : Rf w q s) : q < w.heap.size := by
  rcases Nat.lt_or_ge q w.heap.size with h1 | h1
  · exact h1
  · have := h.box; rw [Array.getElem?_eq_none h1] at this; cases this
theorem Rf.set0 {w : World} {q : Nat} {s : RS} (h : Rf w q s) (l : List UInt8) (hl : l.length ≤ maxLen) : Rf (w.setCell ⟨q, 0, none⟩ (.string (strOf l))) q ⟨l, s.wrong⟩ := by
  refine ⟨?_, hl⟩
  rw [setCell_eq_setRow w q 0 _ 59 (0, 0) _ h.box, setRow_heap w q _ _ 59 (0, 0) h.box]
  rfl
theorem Rf.set1 {w : World} {q : Nat} {s : RS} (h : Rf w q s) : Rf (w.setCell ⟨q, 1, none⟩ (.bool true)) q ⟨s.rest, true⟩ := by
  refine ⟨?_, h.len⟩
  rw [setCell_eq_setRow w q 1 _ 59 (0, 0) _ h.box, setRow_heap w q _ _ 59 (0, 0) h.box]
  rfl
theorem Rf.spoil {w : World} {q : Nat} {s : RS} (h : Rf w q s) : Rf ((w.setCell ⟨q, 1, none⟩ (.bool true)).setCell ⟨q, 0, none⟩ (.string ⟨#[]⟩)) q spoiled :=
  h.set1.set0 [] (by simp)
theorem Rf.kept {w w' : World} {q : Nat} {s : RS} (h : Rf w q s) (hb : w'.heap[q]? = w.heap[q]?) : Rf w' q s := ⟨hb.trans h.box, h.len⟩

set_option maxHeartbeats 800000 in
theorem rnumber_any {w : World} {q : Nat} {s : RS} (h : Rf w q s) : Calls Tryd.prog 41 #[.pointer (some ⟨q, 0, none⟩)] w fun e w' => e = .returned (.int .i64 (numS s).1) ∧ Rf w' q (numS s).2 ∧ w.grownBy w' (some q) := by
  have c0 := h.c0
  have c1 := h.c1
  have f0 := h.f 0
  have f1 := h.f 1
  have H11 := hid (rreadInt_any (strOf s.rest) w (by rw [strOf_size]; exact h.len))
  rw [strOf_data] at H11
  have hlen := h.len
  unfold maxLen at hlen
  have hrg := readL_range s.rest
  have HH := hid h
  have HN : Hid (numS s = if (readL s.rest).2.2 = 0 then ((readL s.rest).1, ⟨s.rest.drop (readL s.rest).2.1, s.wrong⟩) else (0, spoiled)) := rfl
  clear h
  have hsz := strOf_size s.rest
  generalize readL s.rest = R at *
  obtain ⟨n, k, e⟩ := R
  simp only at *
  obtain ⟨hn, hk, _⟩ := hrg
  by_cases he : e = 0
  · subst he
    have hx := extract_drop s.rest k
    have HF : Hid (numS s = (n, ⟨s.rest.drop k, s.wrong⟩)) := by show _ = _; rw [HN.out, if_pos rfl]
    have hk' : (k : Int) ≤ ((strOf s.rest).size : Int) := by rw [hsz]; omega
    have HD := hid (HH.out.set0 (s.rest.drop k) (by simp; unfold maxLen; omega))
    go_enter Tryd.func41, Tryd.ntmps41
    go_wp2_with (go_at_call 61; refine H11.out.mono ?_; rintro e w' ⟨rfl, rfl⟩)
    go_ret
    exact ⟨by rw [HF.out]; rfl, by rw [HF.out]; exact HD.out, Lib.grownBy_setCell _ q 0 _⟩
  · have hne : (e != 0) = true := by simp [he]
    have HF : Hid (numS s = (0, spoiled)) := by show _ = _; rw [HN.out, if_neg he]
    have HD := hid HH.out.spoil
    clear he
    go_enter Tryd.func41, Tryd.ntmps41
    go_wp2_with (go_at_call 61; refine H11.out.mono ?_; rintro e w' ⟨rfl, rfl⟩)
    go_ret
    exact ⟨by rw [HF.out]; rfl, by rw [HF.out]; exact HD.out, (Lib.grownBy_setCell _ q 1 _).trans (Lib.grownBy_setCell _ q 0 _)⟩

set_option maxHeartbeats 1600000 in
theorem rtext_any {w : World} {q : Nat} {s : RS} (h : Rf w q s) (most : Int) (hm : 0 ≤ most) (hm2 : most ≤ 70000) : Calls Tryd.prog 42 #[.pointer (some ⟨q, 0, none⟩), .int .i64 most] w fun e w' => e = .returned (.string (strOf (textR most s).1)) ∧ Rf w' q (textR most s).2 ∧ w.grownBy w' (some q) := by
  have H41 := hid (rnumber_any h)
  have HN : Hid (textR most s = if (numS s).1 < 0 ∨ most < (numS s).1 ∨ ((numS s).2.rest.length : Int) < (numS s).1 then ([], ⟨(numS s).2.rest, true⟩)
      else ((numS s).2.rest.take (numS s).1.toNat, ⟨(numS s).2.rest.drop (numS s).1.toNat, (numS s).2.wrong⟩)) := rfl
  clear h
  generalize numS s = N at *
  obtain ⟨n0, s1⟩ := N
  simp only at *
  have hsz := strOf_size s1.rest
  by_cases h0 : n0 < 0 ∨ most < n0 ∨ (s1.rest.length : Int) < n0
  · have HF : Hid (textR most s = ([], ⟨s1.rest, true⟩)) := by show _ = _; rw [HN.out, if_pos h0]
    rcases h0 with h1 | h1
    · go_enter Tryd.func42, Tryd.ntmps42
      go_wp2_with (go_at_call 41; refine H41.out.mono ?_; rintro e w1 ⟨rfl, hr1, hg1⟩; have d0 := hr1.c0; have d1 := hr1.c1; have f1 := hr1.f 1; have HD := hid hr1.set1; clear hr1)
      go_ret
      exact ⟨by rw [HF.out]; rfl, by rw [HF.out]; exact HD.out, hg1.trans (Lib.grownBy_setCell _ q 1 _)⟩
    · by_cases h2 : n0 < 0
      · exfalso; omega
      · by_cases h3 : most < n0
        · clear h1
          go_enter Tryd.func42, Tryd.ntmps42
          go_wp2_with (go_at_call 41; refine H41.out.mono ?_; rintro e w1 ⟨rfl, hr1, hg1⟩; have d0 := hr1.c0; have d1 := hr1.c1; have f1 := hr1.f 1; have HD := hid hr1.set1; clear hr1)
          go_ret
          exact ⟨by rw [HF.out]; rfl, by rw [HF.out]; exact HD.out, hg1.trans (Lib.grownBy_setCell _ q 1 _)⟩
        · have h4 : (s1.rest.length : Int) < n0 := by omega
          clear h1
          go_enter Tryd.func42, Tryd.ntmps42
          go_wp2_with (go_at_call 41; refine H41.out.mono ?_; rintro e w1 ⟨rfl, hr1, hg1⟩; have d0 := hr1.c0; have d1 := hr1.c1; have f1 := hr1.f 1; have HD := hid hr1.set1; clear hr1)
          go_ret
          exact ⟨by rw [HF.out]; rfl, by rw [HF.out]; exact HD.out, hg1.trans (Lib.grownBy_setCell _ q 1 _)⟩
  · have h1 : ¬ n0 < 0 := by omega
    have h2 : ¬ most < n0 := by omega
    have h3 : ¬ (s1.rest.length : Int) < n0 := by omega
    obtain ⟨n, rfl⟩ := Int.eq_ofNat_of_zero_le (show 0 ≤ n0 by omega)
    have HF : Hid (textR most s = (s1.rest.take n, ⟨s1.rest.drop n, s1.wrong⟩)) := by show _ = _; rw [HN.out, if_neg h0]; simp
    have hx1 := extract_drop s1.rest n
    have hx2 := extract_take s1.rest n
    have hnl : n ≤ s1.rest.length := by omega
    clear h0
    go_enter Tryd.func42, Tryd.ntmps42
    go_wp2_with (go_at_call 41; refine H41.out.mono ?_; rintro e w1 ⟨rfl, hr1, hg1⟩; have d0 := hr1.c0; have f0 := hr1.f 0; have hl1 := hr1.len; unfold maxLen at hl1; have HD := hid (hr1.set0 (s1.rest.drop n) (by simp; unfold maxLen; omega)); clear hr1)
    go_ret
    exact ⟨by rw [HF.out]; rfl, by rw [HF.out]; exact HD.out, hg1.trans (Lib.grownBy_setCell _ q 0 _)⟩
end Go.Proofs.YtocdlaoklagdoaaDoor

/- What the document's reader makes of some bytes is what the program's makes. -/
namespace Go.Proofs.YtocdlaoklagdoaaDoor
set_option linter.unusedSimpArgs false
set_option linter.unusedVariables false

def recR (s : RS) : Rec × RS :=
  (⟨(textR 1000 (numS s).2).1, (textR 1000 (textR 1000 (numS s).2).2).1, (numS s).1⟩, (textR 1000 (textR 1000 (numS s).2).2).2)
def recsR : Nat → RS → List Rec × RS
  | 0, s => ([], s)
  | n + 1, s => ((recsR n s).1 ++ [(recR (recsR n s).2).1], (recR (recsR n s).2).2)
/-- The two are the same, or what is left is wrong in both. -/
def Twin {A : Type} (x y : A × RS) : Prop := x = y ∨ (x.2.wrong = true ∧ y.2.wrong = true)

theorem numS_wrong {s : RS} (h : s.wrong = true) : (numS s).2.wrong = true := by
  unfold numS
  split
  · exact h
  · rfl
theorem textR_wrong (most : Int) {s : RS} (h : s.wrong = true) : (textR most s).2.wrong = true := by
  have h1 := numS_wrong h
  unfold textR
  split
  · rfl
  · exact h1
theorem textS_wrong (most : Int) {s : RS} (h : s.wrong = true) : (textS most s).2.wrong = true := by
  have h1 := numS_wrong h
  have h2 : (countS most s).2.wrong = true := by
    unfold countS
    split
    · rfl
    · exact h1
  unfold textS
  split
  · rfl
  · exact h2
theorem text_twin (most : Int) (s : RS) : Twin (textS most s) (textR most s) := by
  have hS : textS most s = if ((countS most s).2.rest.length : Int) < (countS most s).1 then ([], spoiled) else ((countS most s).2.rest.take (countS most s).1.toNat, ⟨(countS most s).2.rest.drop (countS most s).1.toNat, (countS most s).2.wrong⟩) := rfl
  have hC : countS most s = if (numS s).1 < 0 ∨ most < (numS s).1 then (0, spoiled) else numS s := rfl
  have hR : textR most s = if (numS s).1 < 0 ∨ most < (numS s).1 ∨ ((numS s).2.rest.length : Int) < (numS s).1 then ([], ⟨(numS s).2.rest, true⟩)
      else ((numS s).2.rest.take (numS s).1.toNat, ⟨(numS s).2.rest.drop (numS s).1.toNat, (numS s).2.wrong⟩) := rfl
  by_cases h1 : (numS s).1 < 0 ∨ most < (numS s).1
  · right
    rw [if_pos h1] at hC
    rw [hC] at hS
    rw [if_pos (by rcases h1 with h | h <;> simp [h])] at hR
    rw [hS, hR]
    exact ⟨by simp [spoiled], rfl⟩
  · rw [if_neg h1] at hC
    rw [hC] at hS
    by_cases h2 : ((numS s).2.rest.length : Int) < (numS s).1
    · right
      rw [if_pos h2] at hS
      rw [if_pos (.inr (.inr h2))] at hR
      rw [hS, hR]
      exact ⟨rfl, rfl⟩
    · left
      rw [if_neg h2] at hS
      rw [if_neg (by omega)] at hR
      rw [hS, hR]
theorem rec_twin (s : RS) : Twin (recS s) (recR s) := by
  have hS : recS s = (⟨(textS 1000 (numS s).2).1, (textS 1000 (textS 1000 (numS s).2).2).1, (numS s).1⟩, (textS 1000 (textS 1000 (numS s).2).2).2) := rfl
  have hR : recR s = (⟨(textR 1000 (numS s).2).1, (textR 1000 (textR 1000 (numS s).2).2).1, (numS s).1⟩, (textR 1000 (textR 1000 (numS s).2).2).2) := rfl
  rcases text_twin 1000 (numS s).2 with h1 | ⟨h1, h2⟩
  · rw [h1] at hS
    rcases text_twin 1000 (textR 1000 (numS s).2).2 with h3 | ⟨h3, h4⟩
    · rw [h3] at hS
      exact .inl (hS.trans hR.symm)
    · right; rw [hS, hR]; exact ⟨h3, h4⟩
  · right; rw [hS, hR]; exact ⟨textS_wrong _ h1, textR_wrong _ h2⟩
theorem recR_wrong {s : RS} (h : s.wrong = true) : (recR s).2.wrong = true := textR_wrong _ (textR_wrong _ (numS_wrong h))
theorem recS_wrong {s : RS} (h : s.wrong = true) : (recS s).2.wrong = true := textS_wrong _ (textS_wrong _ (numS_wrong h))
theorem recs_twin (n : Nat) (s : RS) : Twin (recsS n s) (recsR n s) := by
  induction n with
  | zero => exact .inl rfl
  | succ n ih =>
    have hS : recsS (n + 1) s = ((recsS n s).1 ++ [(recS (recsS n s).2).1], (recS (recsS n s).2).2) := rfl
    have hR : recsR (n + 1) s = ((recsR n s).1 ++ [(recR (recsR n s).2).1], (recR (recsR n s).2).2) := rfl
    rcases ih with h1 | ⟨h1, h2⟩
    · rw [h1] at hS
      rcases rec_twin (recsR n s).2 with h3 | ⟨h3, h4⟩
      · rw [h3] at hS
        exact .inl (hS.trans hR.symm)
      · right; rw [hS, hR]; exact ⟨h3, h4⟩
    · right; rw [hS, hR]; exact ⟨recS_wrong h1, recR_wrong h2⟩
theorem recsR_length (n : Nat) (s : RS) : (recsR n s).1.length = n := by
  induction n with
  | zero => rfl
  | succ n ih => simp [recsR, ih]

/-- A batch's body, as the document reads it. -/
def bodyRf (l : List UInt8) : Option Bat :=
  match (numsS 5 ⟨l, false⟩).1 with
  | [n0, n1, n2, n3, n4] =>
    let c := numS (numsS 5 ⟨l, false⟩).2
    if c.1 < 1 ∨ 64 < c.1 then none
    else if (recsR c.1.toNat c.2).2.wrong = true ∨ (recsR c.1.toNat c.2).2.rest ≠ [] ∨ rightL ⟨n0, n1, n2, n3, n4, (recsR c.1.toNat c.2).1⟩ ≠ 0 then none
    else some ⟨n0, n1, n2, n3, n4, (recsR c.1.toNat c.2).1⟩
  | _ => none
theorem done_false {s : RS} (h : s.wrong = true) : doneS s = false := by simp [doneS, h]
theorem done_iff (s : RS) : doneS s = false ↔ (s.wrong = true ∨ s.rest ≠ []) := by
  unfold doneS
  cases s.wrong <;> cases s.rest <;> simp
theorem bodyRf_eq (l : List UInt8) : bodyRf l = if (bodyS l).2 = false ∨ rightL (bodyS l).1 ≠ 0 then none else some (bodyS l).1 := by
  obtain ⟨n0, n1, n2, n3, n4, hn⟩ := five_list ⟨l, false⟩
  have HB : bodyS l = (⟨n0, n1, n2, n3, n4, (recsS (countS 64 (numsS 5 ⟨l, false⟩).2).1.toNat (countS 64 (numsS 5 ⟨l, false⟩).2).2).1⟩, doneS (recsS (countS 64 (numsS 5 ⟨l, false⟩).2).1.toNat (countS 64 (numsS 5 ⟨l, false⟩).2).2).2) := by
    have h1 := bodyS_nums l
    have h2 := bodyS_recs l
    rw [hn] at h1
    generalize bodyS l = b at *
    obtain ⟨⟨a0, a1, a2, a3, a4, rs⟩, d⟩ := b
    simp only [List.cons.injEq, and_true] at h1 h2
    obtain ⟨rfl, rfl, rfl, rfl, rfl⟩ := h1
    rw [h2.1, h2.2]
  have HR : bodyRf l = if (numS (numsS 5 ⟨l, false⟩).2).1 < 1 ∨ 64 < (numS (numsS 5 ⟨l, false⟩).2).1 then none
    else if (recsR (numS (numsS 5 ⟨l, false⟩).2).1.toNat (numS (numsS 5 ⟨l, false⟩).2).2).2.wrong = true ∨ (recsR (numS (numsS 5 ⟨l, false⟩).2).1.toNat (numS (numsS 5 ⟨l, false⟩).2).2).2.rest ≠ [] ∨ rightL ⟨n0, n1, n2, n3, n4, (recsR (numS (numsS 5 ⟨l, false⟩).2).1.toNat (numS (numsS 5 ⟨l, false⟩).2).2).1⟩ ≠ 0 then none
    else some ⟨n0, n1, n2, n3, n4, (recsR (numS (numsS 5 ⟨l, false⟩).2).1.toNat (numS (numsS 5 ⟨l, false⟩).2).2).1⟩ := by
    unfold bodyRf
    rw [hn]
  generalize (numsS 5 ⟨l, false⟩).2 = s at *
  have hC : countS 64 s = if (numS s).1 < 0 ∨ 64 < (numS s).1 then (0, spoiled) else numS s := rfl
  generalize numS s = c at *
  obtain ⟨n, s1⟩ := c
  simp only at *
  rw [HB, HR]
  clear HB HR
  by_cases h1 : n < 0 ∨ 64 < n
  · rw [if_pos h1] at hC
    rw [hC, if_pos (by omega), if_pos (.inl (show doneS spoiled = false from rfl))]
  · rw [if_neg h1] at hC
    rw [hC]
    by_cases h2 : n < 1
    · have h0 : n = 0 := by omega
      subst h0
      have hne : rightL ⟨n0, n1, n2, n3, n4, (recsS (0 : Int).toNat s1).1⟩ ≠ 0 := fun h => (rightL_ok h).2.2.1 rfl
      rw [if_pos (.inl (by omega)), if_pos (.inr hne)]
    · rw [if_neg (by omega)]
      simp only
      rcases recs_twin n.toNat s1 with h3 | ⟨h3, h4⟩
      · rw [h3]
        generalize recsR n.toNat s1 = r
        by_cases h5 : r.2.wrong = true ∨ r.2.rest ≠ []
        · rw [if_pos (by rcases h5 with h | h; exact .inl h; exact .inr (.inl h)), if_pos (.inl ((done_iff _).2 h5))]
        · have h6 : ¬ doneS r.2 = false := fun h => h5 ((done_iff _).1 h)
          by_cases h7 : rightL ⟨n0, n1, n2, n3, n4, r.1⟩ = 0
          · rw [if_neg (by rintro (h | h | h); exact h5 (.inl h); exact h5 (.inr h); exact h h7), if_neg (by rintro (h | h); exact h6 h; exact h h7)]
          · rw [if_pos (.inr (.inr h7)), if_pos (.inr h7)]
      · rw [if_pos (.inl h4), if_pos (.inl (done_false h3))]

theorem numsS_wrong (n : Nat) {s : RS} (h : s.wrong = true) : (numsS n s).2.wrong = true := by
  induction n with
  | zero => exact h
  | succ n ih => exact numS_wrong ih
theorem countS_wrong (most : Int) {s : RS} (h : s.wrong = true) : (countS most s).2.wrong = true := by
  unfold countS
  split
  · rfl
  · exact numS_wrong h
end Go.Proofs.YtocdlaoklagdoaaDoor

/- The document's reading of a message, on lists: it reads a right message's bytes as that message. -/
namespace Go.Proofs.YtocdlaoklagdoaaDoor
set_option linter.unusedSimpArgs false
set_option linter.unusedVariables false

/-- A loop that reads one behind another, while i is below n, at most mx, and nothing is wrong. -/
def runR {α : Type} (one : RS → α × RS) (n : Int) (mx : Int) : Nat → Nat → List α → RS → List α × RS
  | 0, _, acc, s => (acc, s)
  | f + 1, i, acc, s => if (i : Int) < n ∧ (i : Int) ≤ mx ∧ s.wrong = false then runR one n mx f (i + 1) (acc ++ [(one s).1]) (one s).2 else (acc, s)
/-- The same of batches: none where one of them is no batch. -/
def runB (n : Int) (mx : Int) : Nat → Nat → List Bat → RS → Option (List Bat × RS)
  | 0, _, acc, s => some (acc, s)
  | f + 1, i, acc, s => if (i : Int) < n ∧ (i : Int) ≤ mx ∧ s.wrong = false then (if (readBatchL s.rest).2.2 = 0 then runB n mx f (i + 1) (acc ++ [(readBatchL s.rest).1]) ⟨s.rest.drop (readBatchL s.rest).2.1, s.wrong⟩ else none) else some (acc, s)
def entR (s : RS) : Ent × RS := (⟨(numS s).1, (numS (numS s).2).1, (textR 65536 (numS (numS s).2).2).1⟩, (textR 65536 (numS (numS s).2).2).2)
def optR (b : Bool) (s : RS) : List UInt8 × RS := if b then textR 65536 s else ([], s)
def optB (b : Bool) (s : RS) : Option (List Bat × RS) := if b then runB (numS s).1 64 65 0 [] (numS s).2 else some ([], s)
def optV {α : Type} (b : Bool) (one : RS → α × RS) (mx : Int) (f : Nat) (s : RS) : List α × RS := if b then runR one (numS s).1 mx f 0 [] (numS s).2 else ([], s)
def lastR (k : Int) (ns : List Int) (n t : List UInt8) (bs : List Bat) (es : List Ent) (is : List Int × RS) : Option Msg :=
  if is.2.wrong = false ∧ is.2.rest = [] then some (msgOf k ns (ns.getD 14 0) n t bs es is.1) else none
def refR (l : List UInt8) : Option Msg :=
  if (numS (numS ⟨l, false⟩).2).1 < 0 ∨ 1048576 ≤ (numS (numS ⟨l, false⟩).2).1 then none
  else match optB (hasB (numS (numS ⟨l, false⟩).2).1 17) (optR (hasB (numS (numS ⟨l, false⟩).2).1 16) (optR (hasB (numS (numS ⟨l, false⟩).2).1 15) (someS (numS (numS ⟨l, false⟩).2).1 15 (numS (numS ⟨l, false⟩).2).2).2).2).2 with
  | none => none
  | some bs => lastR (numS ⟨l, false⟩).1 (someS (numS (numS ⟨l, false⟩).2).1 15 (numS (numS ⟨l, false⟩).2).2).1
      (optR (hasB (numS (numS ⟨l, false⟩).2).1 15) (someS (numS (numS ⟨l, false⟩).2).1 15 (numS (numS ⟨l, false⟩).2).2).2).1
      (optR (hasB (numS (numS ⟨l, false⟩).2).1 16) (optR (hasB (numS (numS ⟨l, false⟩).2).1 15) (someS (numS (numS ⟨l, false⟩).2).1 15 (numS (numS ⟨l, false⟩).2).2).2).2).1
      bs.1 (optV (hasB (numS (numS ⟨l, false⟩).2).1 18) entR 64 65 bs.2).1
      (optV (hasB (numS (numS ⟨l, false⟩).2).1 19) numS 256 257 (optV (hasB (numS (numS ⟨l, false⟩).2).1 18) entR 64 65 bs.2).2)

theorem textR_put (t more : List UInt8) (h : t.length ≤ 65536) : textR 65536 ⟨textL t ++ more, false⟩ = (t, ⟨more, false⟩) := by
  have e : textL t ++ more = intL t.length ++ (t ++ more) := by simp [textL]
  unfold textR
  rw [e, numS_intL _ _ ⟨by omega, by omega⟩, if_neg (by simp; omega)]
  simp
theorem optR_putT (t more : List UInt8) (h : t.length ≤ 65536) : optR (decide (t ≠ [])) ⟨putT t ++ more, false⟩ = (t, ⟨more, false⟩) := by
  unfold optR putT
  by_cases h0 : t = []
  · simp [h0]
  · simp only [h0, ne_eq, not_false_eq_true, decide_true, if_true, if_false]
    exact textR_put t more h
theorem runR_take {α : Type} (one : RS → α × RS) (enc : α → List UInt8) (encs : List α → List UInt8) (h0 : encs [] = []) (hc : ∀ a r, encs (a :: r) = enc a ++ encs r) (mx : Int) (n : Nat) (hn : (n : Int) ≤ mx) (more : List UInt8) :
    ∀ (l acc : List α) (f i : Nat), i + l.length = n → l.length < f → (∀ a ∈ l, ∀ m, one ⟨enc a ++ m, false⟩ = (a, ⟨m, false⟩)) → runR one n mx f i acc ⟨encs l ++ more, false⟩ = (acc ++ l, ⟨more, false⟩)
  | [], acc, f, i, hi, hf, h => by
    cases f with
    | zero => simp at hf
    | succ f =>
      simp only [runR]
      rw [if_neg (by simp at hi; omega)]
      simp [h0]
  | a :: r, acc, f, i, hi, hf, h => by
    cases f with
    | zero => simp at hf
    | succ f =>
      simp only [List.length_cons] at hi hf
      have h1 := h a (by simp) (encs r ++ more)
      have e : encs (a :: r) ++ more = enc a ++ (encs r ++ more) := by rw [hc]; simp
      simp only [runR]
      rw [if_pos ⟨by omega, by omega, trivial⟩, e, h1]
      have ih := runR_take one enc encs h0 hc mx n hn more r (acc ++ [a]) f (i + 1) (by omega) (by omega) (fun x hx => h x (by simp [hx]))
      rw [ih]
      simp
theorem runB_take (mx : Int) (n : Nat) (hn : (n : Int) ≤ mx) (more : List UInt8) :
    ∀ (l acc : List Bat) (f i : Nat), i + l.length = n → l.length < f → (∀ b ∈ l, I64 b.base ∧ rightL b = 0) → runB n mx f i acc ⟨batsL l ++ more, false⟩ = some (acc ++ l, ⟨more, false⟩)
  | [], acc, f, i, hi, hf, h => by
    cases f with
    | zero => simp at hf
    | succ f =>
      simp only [runB]
      rw [if_neg (by simp at hi; omega)]
      simp [batsL]
  | a :: r, acc, f, i, hi, hf, h => by
    cases f with
    | zero => simp at hf
    | succ f =>
      simp only [List.length_cons] at hi hf
      have h1 := h a (by simp)
      have h2 := readBatchL_batchL a (batsL r ++ more) h1.1 h1.2
      have e : batsL (a :: r) ++ more = (batchL a).1 ++ (batsL r ++ more) := by simp [batsL]
      simp only [runB]
      rw [if_pos ⟨by omega, by omega, trivial⟩, e, h2, if_pos rfl]
      have ih := runB_take mx n hn more r (acc ++ [a]) f (i + 1) (by omega) (by omega) (fun x hx => h x (by simp [hx]))
      rw [List.drop_left, ih]
      simp
theorem optV_put {α : Type} (one : RS → α × RS) (enc : α → List UInt8) (encs : List α → List UInt8) (h0 : encs [] = []) (hc : ∀ a r, encs (a :: r) = enc a ++ encs r) (mx : Int) (f : Nat) (l : List α) (more : List UInt8) (h : ∀ a ∈ l, ∀ m, one ⟨enc a ++ m, false⟩ = (a, ⟨m, false⟩)) (hm : (l.length : Int) ≤ mx) (hf : l.length < f) (hf2 : f ≤ 1000) : optV (decide (0 < l.length)) one mx f ⟨(putN l.length ++ encs l) ++ more, false⟩ = (l, ⟨more, false⟩) := by
  unfold optV
  by_cases hl : l = []
  · subst hl; simp [putN, h0]
  · have hp : 0 < l.length := List.length_pos_iff.2 hl
    rw [if_pos (by simpa using hp)]
    have e : (putN l.length ++ encs l) ++ more = intL l.length ++ (encs l ++ more) := by unfold putN; rw [if_neg (by omega)]; simp
    rw [e, numS_intL _ _ ⟨by omega, by omega⟩]
    have := runR_take one enc encs h0 hc mx l.length hm more l [] f 0 (by omega) hf h
    simpa using this
theorem optB_put (l : List Bat) (more : List UInt8) (h : ∀ b ∈ l, I64 b.base ∧ rightL b = 0) (hm : l.length ≤ 64) : optB (decide (0 < l.length)) ⟨putB l ++ more, false⟩ = some (l, ⟨more, false⟩) := by
  unfold optB
  by_cases hl : l = []
  · subst hl; simp [putB, putN, batsL]
  · have hp : 0 < l.length := List.length_pos_iff.2 hl
    rw [if_pos (by simpa using hp)]
    have e : putB l ++ more = intL l.length ++ (batsL l ++ more) := by unfold putB putN; rw [if_neg (by omega)]; simp
    rw [e, numS_intL _ _ ⟨by omega, by omega⟩]
    have := runB_take 64 l.length (by omega) more l [] 65 0 (by omega) (by omega) h
    simpa using this
theorem entR_entL (x : Ent) (more : List UInt8) (h : entRight x = 0) : entR ⟨entL x ++ more, false⟩ = (x, ⟨more, false⟩) := by
  obtain ⟨h1, h2, h3, h4, h5⟩ := entRight_ok h
  have e : entL x ++ more = intL x.term ++ (intL x.index ++ (textL x.data ++ more)) := by simp [entL, intsL]
  unfold entR
  rw [e, numS_intL _ _ ⟨by omega, by omega⟩]
  simp only
  rw [numS_intL _ _ ⟨by omega, by omega⟩]
  simp only
  rw [textR_put _ _ (by omega)]

theorem runR_mem {α : Type} (one : RS → α × RS) (n mx : Int) : ∀ (f i : Nat) (acc : List α) (s : RS) (x : α), x ∈ (runR one n mx f i acc s).1 → x ∈ acc ∨ ∃ t, x = (one t).1
  | 0, i, acc, s, x, h => .inl h
  | f + 1, i, acc, s, x, h => by
    simp only [runR] at h
    split at h
    · rcases runR_mem one n mx f (i + 1) _ _ x h with h1 | h1
      · rcases List.mem_append.1 h1 with h2 | h2
        · exact .inl h2
        · exact .inr ⟨s, List.mem_singleton.1 h2⟩
      · exact .inr h1
    · exact .inl h
theorem runR_len {α : Type} (one : RS → α × RS) (n mx : Int) : ∀ (f i : Nat) (acc : List α) (s : RS), (runR one n mx f i acc s).1.length ≤ acc.length + f
  | 0, i, acc, s => by simp [runR]
  | f + 1, i, acc, s => by
    simp only [runR]
    split
    · have := runR_len one n mx f (i + 1) (acc ++ [(one s).1]) (one s).2
      simp only [List.length_append, List.length_cons, List.length_nil] at this
      omega
    · simp only; omega
theorem runB_mem (n mx : Int) : ∀ (f i : Nat) (acc : List Bat) (s : RS) (r : List Bat × RS), runB n mx f i acc s = some r → (∀ b ∈ acc, b.ints) → (∀ b ∈ r.1, b.ints) ∧ r.1.length ≤ acc.length + f
  | 0, i, acc, s, r, h, ha => by
    simp only [runB, Option.some.injEq] at h
    subst h
    exact ⟨ha, by simp⟩
  | f + 1, i, acc, s, r, h, ha => by
    simp only [runB] at h
    split at h
    · split at h
      · have := runB_mem n mx f (i + 1) _ _ r h (fun b hb => by
          rcases List.mem_append.1 hb with h2 | h2
          · exact ha b h2
          · rw [List.mem_singleton.1 h2]; exact readBatchL_ints _)
        refine ⟨this.1, ?_⟩
        have h2 := this.2
        simp only [List.length_append, List.length_cons, List.length_nil] at h2
        omega
      · cases h
    · simp only [Option.some.injEq] at h
      subst h
      exact ⟨ha, by simp⟩
theorem textR_len (s : RS) : (textR 65536 s).1.length ≤ 65536 := by
  unfold textR
  split
  · simp
  · simp only [List.length_take]
    omega
theorem optR_len (b : Bool) (s : RS) : (optR b s).1.length ≤ 65536 := by
  unfold optR
  split
  · exact textR_len s
  · simp
theorem refR_ok (l : List UInt8) (m : Msg) (h : refR l = some m) : m.ok := by
  unfold refR at h
  split at h
  · cases h
  · split at h
    · cases h
    · rename_i bs hbs
      unfold lastR at h
      split at h
      · simp only [Option.some.injEq] at h
        subst h
        generalize hp : numS (numS ⟨l, false⟩).2 = p at *
        have hl := someS_length p.1 15 p.2
        have hi := someS_ok p.1 15 p.2
        have hb : (∀ b ∈ bs.1, b.ints) ∧ bs.1.length ≤ 65 := by
          unfold optB at hbs
          split at hbs
          · have := runB_mem _ _ _ _ _ _ _ hbs (fun b hb => by simp at hb)
            simpa using this
          · simp only [Option.some.injEq] at hbs
            subst hbs
            simp
        have he : (∀ e ∈ (optV (hasB p.1 18) entR 64 65 bs.2).1, e.ok) ∧ (optV (hasB p.1 18) entR 64 65 bs.2).1.length ≤ 65 := by
          unfold optV
          split
          · refine ⟨fun e he => ?_, by have := runR_len entR (numS bs.2).1 64 65 0 [] (numS bs.2).2; simpa using this⟩
            rcases runR_mem _ _ _ _ _ _ _ e he with h1 | ⟨t, rfl⟩
            · simp at h1
            · refine ⟨numS_i64 _, numS_i64 _, ?_⟩
              have : (entR t).1.data.length ≤ 65536 := textR_len _
              unfold maxLen; omega
          · simp
        generalize optV (hasB p.1 18) entR 64 65 bs.2 = E at *
        have hn : (∀ e ∈ (optV (hasB p.1 19) numS 256 257 E.2).1, I64 e) ∧ (optV (hasB p.1 19) numS 256 257 E.2).1.length ≤ 257 := by
          unfold optV
          split
          · refine ⟨fun e he => ?_, by have := runR_len numS (numS E.2).1 256 257 0 [] (numS E.2).2; simpa using this⟩
            rcases runR_mem _ _ _ _ _ _ _ e he with h1 | ⟨t, rfl⟩
            · simp at h1
            · exact numS_i64 t
          · simp
        have t1 := optR_len (hasB p.1 15) (someS p.1 15 p.2).2
        have t2 := optR_len (hasB p.1 16) (optR (hasB p.1 15) (someS p.1 15 p.2).2).2
        have hk := numS_i64 ⟨l, false⟩
        generalize (someS p.1 15 p.2).1 = L at *
        have hL : ∀ i, I64 (L.getD i 0) := fun i => by
          by_cases hi2 : i < L.length
          · have := hi L[i] (List.getElem_mem hi2)
            simpa [List.getD, hi2] using this
          · have e : L.getD i 0 = 0 := by simp [List.getD, List.getElem?_eq_none (by omega : L.length ≤ i)]
            rw [e]; exact ⟨by decide, by decide⟩
        refine ⟨hk, ?_, hL 14, Nat.le_trans t1 (by unfold maxLen; omega), Nat.le_trans t2 (by unfold maxLen; omega), hb.1, Nat.le_trans hb.2 (by unfold maxLen; omega), he.1, Nat.le_trans he.2 (by unfold maxLen; omega), hn.1, Nat.le_trans hn.2 (by unfold maxLen; omega)⟩
        intro n hn2
        simp only [nums, msgOf, List.mem_cons, List.not_mem_nil, or_false] at hn2
        rcases hn2 with rfl | rfl | rfl | rfl | rfl | rfl | rfl | rfl | rfl | rfl | rfl | rfl | rfl | rfl <;> exact hL _
      · cases h

theorem refR_bodyM (m : Msg) (hk : m.ok) (h : rightP m = 0) (ht : m.text.length ≤ 65528) : refR (bodyM m) = some m := by
  obtain ⟨r1, r2, r3, r4, r5, r6, r7⟩ := rightP_zero h
  have hs := sumL_lt m
  have e : bodyM m = intL m.kind ++ (intL (sumL m : Nat) ++ (putNs (nums m ++ [m.err]) ++ (putT m.name ++ (putT m.text ++ (putB m.bats ++ ((putN m.ents.length ++ entsL m.ents) ++ ((putN m.ints.length ++ intsL m.ints) ++ []))))))) := by
    simp [bodyM, intsL, partsL, tail14, tail15, tail16, tail17, tail18, tail19, putB, putE, putI, putNs_append, putNs]
  have hp : ∀ i (h : i < (nums m ++ [m.err]).length), hasB (sumL m : Nat) i = decide ((nums m ++ [m.err])[i] ≠ 0) := fun i hi => by
    rw [has_sum m i]
    have h15 : i < 15 := hi
    have hc : i = 0 ∨ i = 1 ∨ i = 2 ∨ i = 3 ∨ i = 4 ∨ i = 5 ∨ i = 6 ∨ i = 7 ∨ i = 8 ∨ i = 9 ∨ i = 10 ∨ i = 11 ∨ i = 12 ∨ i = 13 ∨ i = 14 := by omega
    rcases hc with rfl | rfl | rfl | rfl | rfl | rfl | rfl | rfl | rfl | rfl | rfl | rfl | rfl | rfl | rfl <;> rfl
  have b15 : hasB (sumL m : Nat) 15 = decide (m.name ≠ []) := has_sum m 15
  have b16 : hasB (sumL m : Nat) 16 = decide (m.text ≠ []) := has_sum m 16
  have b17 : hasB (sumL m : Nat) 17 = decide (0 < m.bats.length) := has_sum m 17
  have b18 : hasB (sumL m : Nat) 18 = decide (0 < m.ents.length) := has_sum m 18
  have b19 : hasB (sumL m : Nat) 19 = decide (0 < m.ints.length) := has_sum m 19
  have hi : ∀ n ∈ nums m ++ [m.err], I64 n := fun n hn => by
    rcases List.mem_append.1 hn with h1 | h1
    · exact hk.nums _ h1
    · rw [List.mem_singleton.1 h1]; exact hk.err
  unfold refR
  rw [e, numS_intL _ _ hk.kind]
  simp only
  rw [numS_intL _ _ (show I64 ((sumL m : Nat) : Int) from ⟨by omega, by omega⟩)]
  simp only [b15, b16, b17, b18, b19]
  have e15 := someS_take ((sumL m : Nat) : Int) (nums m ++ [m.err]) (putT m.name ++ (putT m.text ++ (putB m.bats ++ ((putN m.ents.length ++ entsL m.ents) ++ ((putN m.ints.length ++ intsL m.ints) ++ []))))) hp hi 15 (Nat.le_refl _)
  rw [show (nums m ++ [m.err]).take 15 = nums m ++ [m.err] from rfl, show (nums m ++ [m.err]).drop 15 = [] from rfl] at e15
  simp only [putNs, List.nil_append] at e15
  rw [e15, if_neg (by omega)]
  simp only
  rw [optR_putT _ _ (by omega)]
  simp only
  rw [optR_putT _ _ (by omega)]
  simp only
  rw [optB_put _ _ (fun b hb => ⟨(hk.bats b hb).h0, r6 b hb⟩) (by omega)]
  simp only
  rw [optV_put entR entL entsL rfl (fun _ _ => rfl) 64 65 m.ents _ (fun b hb more => entR_entL b more (r7 b hb)) (by omega) (by omega) (by omega)]
  simp only
  rw [optV_put numS intL intsL rfl (fun _ _ => rfl) 256 257 m.ints _ (fun b hb more => numS_intL b more (hk.ints b hb)) (by omega) (by omega) (by omega)]
  unfold lastR
  rw [if_pos ⟨rfl, rfl⟩]
  rfl
/-- What the document's Decode makes of a body: the message that is written so, if there is one. -/
theorem refR_bodyR (l : List UInt8) : bodyR l = (match refR l with | some m => if (rightM m).2 = 0 ∧ bodyM m = l then (m, true) else ((bodyR l).1, false) | none => ((bodyR l).1, false)) := by
  by_cases hb : (bodyR l).2 = true
  · have h1 := hb
    unfold bodyR at h1
    simp only [Bool.and_eq_true, decide_eq_true_eq] at h1
    obtain ⟨_, h2, h3⟩ := h1
    have hm : (bodyR l).1 = (partsS ⟨l, false⟩).1 := rfl
    have hok := partsS_ok ⟨l, false⟩
    rw [← hm] at h2 h3 hok
    generalize hM : (bodyR l).1 = m at *
    obtain ⟨q1, q2, q3, q4⟩ := rightM_zero h2
    have e : bodyM m = l := by rw [← h3, q4]
    have hr := refR_bodyM m hok q1 q2
    rw [e] at hr
    rw [hr]
    simp only
    rw [if_pos ⟨h2, e⟩]
    exact Prod.ext hM hb
  · have hf : (bodyR l).2 = false := by simpa using hb
    cases hr : refR l with
    | none => exact Prod.ext rfl hf
    | some m =>
      simp only
      by_cases hc : (rightM m).2 = 0 ∧ bodyM m = l
      · have := bodyR_bodyM m (refR_ok l m hr) hc.1
        rw [hc.2] at this
        rw [this] at hf
        cases hf
      · rw [if_neg hc]
        exact Prod.ext rfl hf
end Go.Proofs.YtocdlaoklagdoaaDoor

/- RpcReads: the walk, over what the document's Decode makes. -/
namespace Go.Proofs.YtocdlaoklagdoaaDoor
open Go.RowKit Go.Maps
set_option linter.unusedSimpArgs false
set_option linter.unusedVariables false
set_option maxRecDepth 100000

/-- What the document's Decode makes of some bytes. -/
def DecPost (l : List UInt8) (W : World) (e : Ending) (w' : World) : Prop := ∃ xb yb xe ye xi yi, e = .returned (.tuple #[.agg #[.int .i64 (decodeL l).1.kind, .int .i64 (decodeL l).1.n0, .int .i64 (decodeL l).1.n1, .int .i64 (decodeL l).1.n2, .int .i64 (decodeL l).1.n3, .int .i64 (decodeL l).1.n4, .int .i64 (decodeL l).1.n5, .int .i64 (decodeL l).1.n6, .int .i64 (decodeL l).1.n7, .int .i64 (decodeL l).1.n8, .int .i64 (decodeL l).1.n9, .int .i64 (decodeL l).1.n10, .int .i64 (decodeL l).1.n11, .int .i64 (decodeL l).1.n12, .int .i64 (decodeL l).1.n13, .int .i64 (decodeL l).1.err, .string (strOf (decodeL l).1.name), .string (strOf (decodeL l).1.text), .slice xb (decodeL l).1.bats.length yb, .slice xe (decodeL l).1.ents.length ye, .slice xi (decodeL l).1.ints.length yi], .int .i64 (decodeL l).2]) ∧ Below W.heap.size W w' ∧ Here w' (decodeL l).1 xb xe xi
def RefDec : Prop := ∀ (W : World) (l : List UInt8), l.length ≤ 100000 → Calls Tryd.prog 16 #[.string (strOf l)] W fun e w' => DecPost l W e w'
theorem decodeL_ok (l : List UInt8) : (decodeL l).1.ok := by
  have z : zeroMsg.ok := plain_ok (small_ok _ (by decide)) (fun n hn => small_ok n (by simp [nums, zeroMsg] at hn; omega)) (small_ok _ (by decide)) rfl rfl rfl rfl rfl
  unfold decodeL
  split
  · exact z
  · split
    · exact z
    · split
      · exact z
      · split
        · exact z
        · split
          · exact z
          · split
            · exact z
            · exact partsS_ok _
def two (s : List UInt8) : List (List UInt8) := [s, fourL s.length ++ fourL (crcL s) ++ s]
theorem two_cell (s : List UInt8) (k : Nat) (hk : k < 2) : (#[.string (strOf s), .string (strOf (fourL s.length ++ fourL (crcL s) ++ s))] : Array Value)[k]? = some (.string (strOf ((two s).getD k []))) := by
  have h : k = 0 ∨ k = 1 := by omega
  rcases h with rfl | rfl <;> rfl
theorem two_len (s : List UInt8) (k : Nat) (h : s.length ≤ 70000) : ((two s).getD k []).length ≤ 70008 := by
  match k with
  | 0 => show s.length ≤ _; omega
  | 1 => show (fourL s.length ++ fourL (crcL s) ++ s).length ≤ _; simp [fourL]; omega
  | k + 2 => show ([] : List UInt8).length ≤ _; simp

set_option maxHeartbeats 3200000 in
theorem reads_walk (R16 : RefDec) {w : World} (s : List UInt8) (hs : s.length ≤ maxLen) (hT : Tab w) :
    Calls Tryd.prog 4 #[.string (strOf s)] w fun e w' => e = .returned (.bool true) ∧ Below w.heap.size w w' := by
  have hw2 := hT.2
  have HT := hid hT
  have hsz := strOf_size s
  unfold maxLen at hs
  have HS := hid (shown_any hT)
  by_cases hbig : 70000 < s.length
  · have hb : (70000 : Int) < (s.length : Int) := by omega
    go_enter Tryd.func4, Tryd.ntmps4
    go_wp2_with fail
    refine HS.out.mono ?_
    rintro e w1 ⟨rfl, hb1⟩
    go_wp2
    go_ret
    exact ⟨rfl, hb1⟩
  have hb : ¬ (70000 : Int) < (s.length : Int) := by omega
  have hcrc := crcL_lt s
  have H14 := hid (fun W => rcrc_any (strOf s) W (by rw [hsz]; unfold maxLen; omega))
  rw [strOf_data] at H14
  have H13a := hid (fun W => rfour_any s.length W (by omega))
  have H13b := hid (fun W => rfour_any (crcL s) W hcrc)
  have e1 := strOf_append (fourL s.length) (fourL (crcL s))
  have e2 := strOf_append (fourL s.length ++ fourL (crcL s)) s
  have z1 : (strOf (fourL s.length)).size = 4 := strOf_size _
  have z2 : (strOf (fourL (crcL s))).size = 4 := strOf_size _
  have z3 : (strOf (fourL s.length ++ fourL (crcL s))).size = 8 := strOf_size _
  have HC := hid (fun k hk => two_cell s k hk)
  have HL := hid (fun k => two_len s k (by omega))
  have HR := hid R16
  clear hT R16 hbig hs
  go_enter Tryd.func4, Tryd.ntmps4
  go_wp2_with fail
  refine HS.out.mono ?_
  rintro e w1 ⟨rfl, hb1⟩
  have B1 := hid hb1
  clear hb1
  go_wp2_with fail
  refine (H13a.out _).mono ?_
  rintro e w2 ⟨rfl, hb2⟩
  have B2 := hid (B1.out.trans (hb2.mono B1.out.size))
  clear hb2 B1
  go_wp2_with (go_at_call 14; refine (H14.out _).mono ?_; rintro e w4 ⟨rfl, rfl⟩)
  refine (H13b.out _).mono ?_
  rintro e w3 ⟨rfl, hb3⟩
  have B3 := hid (B2.out.trans (hb3.mono B2.out.size))
  have BX := hid (heap_alloc_new w3 (.cells #[.string (strOf s), .string (strOf (fourL s.length ++ fourL (crcL s) ++ s))] 9))
  have B4 := hid (B3.out.alloc B3.out.size (.cells #[.string (strOf s), .string (strOf (fourL s.length ++ fourL (crcL s) ++ s))] 9))
  have hz9 : Hid (w3.heap.size < (w3.alloc (.cells #[.string (strOf s), .string (strOf (fourL s.length ++ fourL (crcL s) ++ s))] 9)).heap.size) := by show _ < _; simp
  have hz8 := hid B3.out.size
  clear hb3 B2 B3
  go_wp2_with fail
  generalize w3.heap.size = bx at *
  go_loopg [5] 2 (fun kx s5 wx => ∃ k : Nat, k ≤ 2 ∧ 2 - k ≤ kx ∧ s5 = .int .i64 k ∧ Hid (Below w.heap.size w wx ∧ wx.heap[bx]? = some (.cells #[.string (strOf s), .string (strOf (fourL s.length ++ fourL (crcL s) ++ s))] 9) ∧ bx < wx.heap.size))
  case atStart => exact ⟨0, by omega, by omega, rfl, B4.out, BX.out, hz9.out⟩
  case round =>
    clear B4 BX hz9
    obtain ⟨k, hk, hkx, rfl, HD⟩ := hrel
    by_cases hlt : k < 2
    · have hlt' : (k : Int) < 2 := by omega
      have i0' : (0 : Int) ≤ (k : Int) := by omega
      have HCk := hid (HC.out k hlt)
      have s0 := cell_blk HD.out.2.1 k _ HCk.out
      have hl := HL.out k
      have hok := decodeL_ok ((two s).getD k [])
      have R1 := hid (fun (W : World) (h : Below w.heap.size w W) => decode_back (W := W) ((two s).getD k []) (decodeL ((two s).getD k [])).1 (decodeL ((two s).getD k [])).2 (by unfold maxLen; omega) (HT.out.under h hw2) rfl)
      have R2 : Hid (∀ W : World, Calls Tryd.prog 16 #[.string (strOf ((two s).getD k []))] W fun e w' => ∃ xb yb xe ye xi yi, e = .returned (.tuple #[.agg #[.int .i64 (decodeL ((two s).getD k [])).1.kind, .int .i64 (decodeL ((two s).getD k [])).1.n0, .int .i64 (decodeL ((two s).getD k [])).1.n1, .int .i64 (decodeL ((two s).getD k [])).1.n2, .int .i64 (decodeL ((two s).getD k [])).1.n3, .int .i64 (decodeL ((two s).getD k [])).1.n4, .int .i64 (decodeL ((two s).getD k [])).1.n5, .int .i64 (decodeL ((two s).getD k [])).1.n6, .int .i64 (decodeL ((two s).getD k [])).1.n7, .int .i64 (decodeL ((two s).getD k [])).1.n8, .int .i64 (decodeL ((two s).getD k [])).1.n9, .int .i64 (decodeL ((two s).getD k [])).1.n10, .int .i64 (decodeL ((two s).getD k [])).1.n11, .int .i64 (decodeL ((two s).getD k [])).1.n12, .int .i64 (decodeL ((two s).getD k [])).1.n13, .int .i64 (decodeL ((two s).getD k [])).1.err, .string (strOf (decodeL ((two s).getD k [])).1.name), .string (strOf (decodeL ((two s).getD k [])).1.text), .slice xb (decodeL ((two s).getD k [])).1.bats.length yb, .slice xe (decodeL ((two s).getD k [])).1.ents.length ye, .slice xi (decodeL ((two s).getD k [])).1.ints.length yi], .int .i64 (decodeL ((two s).getD k [])).2]) ∧ Below W.heap.size W w' ∧ Here w' (decodeL ((two s).getD k [])).1 xb xe xi) := fun W => HR.out W ((two s).getD k []) (by omega)
      generalize (two s).getD k [] = l at *
      obtain ⟨D, hD⟩ : ∃ D, D = (decodeL l).1 := ⟨_, rfl⟩
      rw [← hD] at hok R1 R2
      generalize (decodeL l).2 = n at *
      clear hD
      have S1 : Hid (∀ (W : World) xb yb xe ye xi yi pb qb pe qe pi qi, Here W D xb xe xi → Here W D pb pe pi → Calls Tryd.prog 17 #[.agg #[.int .i64 D.kind, .int .i64 D.n0, .int .i64 D.n1, .int .i64 D.n2, .int .i64 D.n3, .int .i64 D.n4, .int .i64 D.n5, .int .i64 D.n6, .int .i64 D.n7, .int .i64 D.n8, .int .i64 D.n9, .int .i64 D.n10, .int .i64 D.n11, .int .i64 D.n12, .int .i64 D.n13, .int .i64 D.err, .string (strOf D.name), .string (strOf D.text), .slice xb D.bats.length yb, .slice xe D.ents.length ye, .slice xi D.ints.length yi], .agg #[.int .i64 D.kind, .int .i64 D.n0, .int .i64 D.n1, .int .i64 D.n2, .int .i64 D.n3, .int .i64 D.n4, .int .i64 D.n5, .int .i64 D.n6, .int .i64 D.n7, .int .i64 D.n8, .int .i64 D.n9, .int .i64 D.n10, .int .i64 D.n11, .int .i64 D.n12, .int .i64 D.n13, .int .i64 D.err, .string (strOf D.name), .string (strOf D.text), .slice pb D.bats.length qb, .slice pe D.ents.length qe, .slice pi D.ints.length qi]] W fun e w' => e = .returned (.bool true) ∧ Below W.heap.size W w') := fun W xb yb xe ye xi yi pb qb pe qe pi qi h1 h2 => by
        refine (same_any (w := W) D D xb yb xe ye xi yi pb qb pe qe pi qi h1 h2 hok.batsLen hok.entsLen hok.intsLen).mono ?_
        rintro e w' ⟨r, rfl, hr, hb⟩
        have e := hr.2 rfl
        subst e
        exact ⟨rfl, hb⟩
      have qn : (n != n) = false := by simp
      clear hok
      go_wp2_with fail
      refine (R1.out _ HD.out.1).mono ?_
      rintro e w4 ⟨xb, yb, xe, ye, xi, yi, rfl, hb4, hx4⟩
      have K4 := hid (And.intro (HD.out.1.trans (hb4.mono HD.out.1.size)) (And.intro ((hb4.block _ HD.out.2.2).trans HD.out.2.1) (Nat.lt_of_lt_of_le HD.out.2.2 hb4.size)))
      have hst : Hid ((w4.alloc (.cells #[.int .i64 0, .int .i64 0, .int .i64 0, .int .i64 0, .int .i64 0, .int .i64 0, .int .i64 0, .int .i64 0, .int .i64 0, .int .i64 0, .int .i64 0, .int .i64 0, .int .i64 0, .int .i64 0, .int .i64 0, .int .i64 0, .string ⟨#[]⟩, .string ⟨#[]⟩, .slice none 0 0, .slice none 0 0, .slice none 0 0] 27)).setRow w4.heap.size #[.int .i64 D.kind, .int .i64 D.n0, .int .i64 D.n1, .int .i64 D.n2, .int .i64 D.n3, .int .i64 D.n4, .int .i64 D.n5, .int .i64 D.n6, .int .i64 D.n7, .int .i64 D.n8, .int .i64 D.n9, .int .i64 D.n10, .int .i64 D.n11, .int .i64 D.n12, .int .i64 D.n13, .int .i64 D.err, .string (strOf D.name), .string (strOf D.text), .slice xb D.bats.length yb, .slice xe D.ents.length ye, .slice xi D.ints.length yi] = w4.alloc (.cells #[.int .i64 D.kind, .int .i64 D.n0, .int .i64 D.n1, .int .i64 D.n2, .int .i64 D.n3, .int .i64 D.n4, .int .i64 D.n5, .int .i64 D.n6, .int .i64 D.n7, .int .i64 D.n8, .int .i64 D.n9, .int .i64 D.n10, .int .i64 D.n11, .int .i64 D.n12, .int .i64 D.n13, .int .i64 D.err, .string (strOf D.name), .string (strOf D.text), .slice xb D.bats.length yb, .slice xe D.ents.length ye, .slice xi D.ints.length yi] 27)) := World.setRow_alloc_new _ _ _ _
      have N1 := hid (heap_alloc_new w4 (.cells #[.int .i64 0, .int .i64 0, .int .i64 0, .int .i64 0, .int .i64 0, .int .i64 0, .int .i64 0, .int .i64 0, .int .i64 0, .int .i64 0, .int .i64 0, .int .i64 0, .int .i64 0, .int .i64 0, .int .i64 0, .int .i64 0, .string ⟨#[]⟩, .string ⟨#[]⟩, .slice none 0 0, .slice none 0 0, .slice none 0 0] 27))
      have N2 := hid (heap_alloc_new w4 (.cells #[.int .i64 D.kind, .int .i64 D.n0, .int .i64 D.n1, .int .i64 D.n2, .int .i64 D.n3, .int .i64 D.n4, .int .i64 D.n5, .int .i64 D.n6, .int .i64 D.n7, .int .i64 D.n8, .int .i64 D.n9, .int .i64 D.n10, .int .i64 D.n11, .int .i64 D.n12, .int .i64 D.n13, .int .i64 D.err, .string (strOf D.name), .string (strOf D.text), .slice xb D.bats.length yb, .slice xe D.ents.length ye, .slice xi D.ints.length yi] 27))
      have hA4 := (Below.refl w4.heap.size w4).alloc (Nat.le_refl _) (.cells #[.int .i64 D.kind, .int .i64 D.n0, .int .i64 D.n1, .int .i64 D.n2, .int .i64 D.n3, .int .i64 D.n4, .int .i64 D.n5, .int .i64 D.n6, .int .i64 D.n7, .int .i64 D.n8, .int .i64 D.n9, .int .i64 D.n10, .int .i64 D.n11, .int .i64 D.n12, .int .i64 D.n13, .int .i64 D.err, .string (strOf D.name), .string (strOf D.text), .slice xb D.bats.length yb, .slice xe D.ents.length ye, .slice xi D.ints.length yi] 27)
      have K5 := hid (And.intro (K4.out.1.trans (hA4.mono K4.out.1.size)) (And.intro ((hA4.block _ K4.out.2.2).trans K4.out.2.1) (Nat.lt_of_lt_of_le K4.out.2.2 hA4.size)))
      have HX5 := hid (hx4.under hA4)
      have s0b := cell_blk K5.out.2.1 k _ HCk.out
      have hLT := hid (show w4.heap.size < (w4.alloc (.cells #[.int .i64 D.kind, .int .i64 D.n0, .int .i64 D.n1, .int .i64 D.n2, .int .i64 D.n3, .int .i64 D.n4, .int .i64 D.n5, .int .i64 D.n6, .int .i64 D.n7, .int .i64 D.n8, .int .i64 D.n9, .int .i64 D.n10, .int .i64 D.n11, .int .i64 D.n12, .int .i64 D.n13, .int .i64 D.err, .string (strOf D.name), .string (strOf D.text), .slice xb D.bats.length yb, .slice xe D.ents.length ye, .slice xi D.ints.length yi] 27)).heap.size by simp)
      clear hb4 hx4 hA4 K4 s0
      go_wp2_with (first | (refine wpList_store_row rfl 27 _ _ rfl w4.heap.size #[.int .i64 D.kind, .int .i64 D.n0, .int .i64 D.n1, .int .i64 D.n2, .int .i64 D.n3, .int .i64 D.n4, .int .i64 D.n5, .int .i64 D.n6, .int .i64 D.n7, .int .i64 D.n8, .int .i64 D.n9, .int .i64 D.n10, .int .i64 D.n11, .int .i64 D.n12, .int .i64 D.n13, .int .i64 D.err, .string (strOf D.name), .string (strOf D.text), .slice xb D.bats.length yb, .slice xe D.ents.length ye, .slice xi D.ints.length yi] rfl rfl 27 _ N1.out size27 rfl (by simp [Value.oneCell']) ?_; rw [hst.out]) | fail)
      refine (R2.out _).mono ?_
      rintro e w6 ⟨pb, qb, pe, qe, pi, qi, rfl, hb6, hy6⟩
      have K6 := hid (And.intro (K5.out.1.trans (hb6.mono K5.out.1.size)) (And.intro ((hb6.block _ K5.out.2.2).trans K5.out.2.1) (Nat.lt_of_lt_of_le K5.out.2.2 hb6.size)))
      have HX6 := hid (HX5.out.under hb6)
      have N6 := hid ((hb6.block _ hLT.out).trans N2.out)
      have hst2 : Hid ((w6.alloc (.cells #[.int .i64 0, .int .i64 0, .int .i64 0, .int .i64 0, .int .i64 0, .int .i64 0, .int .i64 0, .int .i64 0, .int .i64 0, .int .i64 0, .int .i64 0, .int .i64 0, .int .i64 0, .int .i64 0, .int .i64 0, .int .i64 0, .string ⟨#[]⟩, .string ⟨#[]⟩, .slice none 0 0, .slice none 0 0, .slice none 0 0] 27)).setRow w6.heap.size #[.int .i64 D.kind, .int .i64 D.n0, .int .i64 D.n1, .int .i64 D.n2, .int .i64 D.n3, .int .i64 D.n4, .int .i64 D.n5, .int .i64 D.n6, .int .i64 D.n7, .int .i64 D.n8, .int .i64 D.n9, .int .i64 D.n10, .int .i64 D.n11, .int .i64 D.n12, .int .i64 D.n13, .int .i64 D.err, .string (strOf D.name), .string (strOf D.text), .slice pb D.bats.length qb, .slice pe D.ents.length qe, .slice pi D.ints.length qi] = w6.alloc (.cells #[.int .i64 D.kind, .int .i64 D.n0, .int .i64 D.n1, .int .i64 D.n2, .int .i64 D.n3, .int .i64 D.n4, .int .i64 D.n5, .int .i64 D.n6, .int .i64 D.n7, .int .i64 D.n8, .int .i64 D.n9, .int .i64 D.n10, .int .i64 D.n11, .int .i64 D.n12, .int .i64 D.n13, .int .i64 D.err, .string (strOf D.name), .string (strOf D.text), .slice pb D.bats.length qb, .slice pe D.ents.length qe, .slice pi D.ints.length qi] 27)) := World.setRow_alloc_new _ _ _ _
      have M1 := hid (heap_alloc_new w6 (.cells #[.int .i64 0, .int .i64 0, .int .i64 0, .int .i64 0, .int .i64 0, .int .i64 0, .int .i64 0, .int .i64 0, .int .i64 0, .int .i64 0, .int .i64 0, .int .i64 0, .int .i64 0, .int .i64 0, .int .i64 0, .int .i64 0, .string ⟨#[]⟩, .string ⟨#[]⟩, .slice none 0 0, .slice none 0 0, .slice none 0 0] 27))
      have M2 := hid (heap_alloc_new w6 (.cells #[.int .i64 D.kind, .int .i64 D.n0, .int .i64 D.n1, .int .i64 D.n2, .int .i64 D.n3, .int .i64 D.n4, .int .i64 D.n5, .int .i64 D.n6, .int .i64 D.n7, .int .i64 D.n8, .int .i64 D.n9, .int .i64 D.n10, .int .i64 D.n11, .int .i64 D.n12, .int .i64 D.n13, .int .i64 D.err, .string (strOf D.name), .string (strOf D.text), .slice pb D.bats.length qb, .slice pe D.ents.length qe, .slice pi D.ints.length qi] 27))
      have hA6 := (Below.refl w6.heap.size w6).alloc (Nat.le_refl _) (.cells #[.int .i64 D.kind, .int .i64 D.n0, .int .i64 D.n1, .int .i64 D.n2, .int .i64 D.n3, .int .i64 D.n4, .int .i64 D.n5, .int .i64 D.n6, .int .i64 D.n7, .int .i64 D.n8, .int .i64 D.n9, .int .i64 D.n10, .int .i64 D.n11, .int .i64 D.n12, .int .i64 D.n13, .int .i64 D.err, .string (strOf D.name), .string (strOf D.text), .slice pb D.bats.length qb, .slice pe D.ents.length qe, .slice pi D.ints.length qi] 27)
      have hlt6 := hid (Nat.lt_of_lt_of_le hLT.out hb6.size)
      have N7 := hid ((hA6.block _ hlt6.out).trans N6.out)
      have K7 := hid (And.intro (K6.out.1.trans (hA6.mono K6.out.1.size)) (And.intro ((hA6.block _ K6.out.2.2).trans K6.out.2.1) (Nat.lt_of_lt_of_le K6.out.2.2 hA6.size)))
      have HX7 := hid (HX6.out.under hA6)
      have HY7 := hid (hy6.under hA6)
      clear hb6 hy6 hA6 K5 K6 HX5 HX6 N1 N2 N6 hst hLT hlt6 s0b
      go_wp2_with (first | (refine wpList_store_row rfl 27 _ _ rfl w6.heap.size #[.int .i64 D.kind, .int .i64 D.n0, .int .i64 D.n1, .int .i64 D.n2, .int .i64 D.n3, .int .i64 D.n4, .int .i64 D.n5, .int .i64 D.n6, .int .i64 D.n7, .int .i64 D.n8, .int .i64 D.n9, .int .i64 D.n10, .int .i64 D.n11, .int .i64 D.n12, .int .i64 D.n13, .int .i64 D.err, .string (strOf D.name), .string (strOf D.text), .slice pb D.bats.length qb, .slice pe D.ents.length qe, .slice pi D.ints.length qi] rfl rfl 27 _ M1.out size27 rfl (by simp [Value.oneCell']) ?_; rw [hst2.out]) | (refine wpList_load_row rfl 27 _ rfl w4.heap.size rfl 27 _ (0, 0) _ N7.out Tryd.underlying27 rfl size27 ?_) | (refine wpList_load_row rfl 27 _ rfl w6.heap.size rfl 27 _ (0, 0) _ M2.out Tryd.underlying27 rfl size27 ?_) | fail)
      refine (S1.out _ xb yb xe ye xi yi pb qb pe qe pi qi HX7.out HY7.out).mono ?_
      rintro e w8 ⟨rfl, hb8⟩
      have K8 := hid (And.intro (K7.out.1.trans (hb8.mono K7.out.1.size)) (And.intro ((hb8.block _ K7.out.2.2).trans K7.out.2.1) (Nat.lt_of_lt_of_le K7.out.2.2 hb8.size)))
      clear hb8 K7 HX7 HY7 M1 M2 N7 hst2
      go_wp2_with fail
      go_roundg (2 - (k + 1))
      case measure => omega
      case rel => exact ⟨k + 1, by omega, Nat.le_refl _, by go_num, K8⟩
    · have hlt' : ¬ (k : Int) < 2 := by omega
      go_wp2
      go_ret
      exact ⟨rfl, HD.out.1⟩
end Go.Proofs.YtocdlaoklagdoaaDoor
