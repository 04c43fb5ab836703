/- The reader of pieces: what is left of some bytes, in memory. -/
import Derived.Test.YtbgmehanhilicaaK9
namespace Go.Proofs.Ytbgmehanhilicaa
open Go.RowKit Go.Maps
set_option linter.unusedSimpArgs false
set_option linter.unusedVariables false
set_option maxRecDepth 100000

/-- A reader in block q. -/
structure Pd (w : World) (q : Nat) (s : RS) : Prop where
  box : w.heap[q]? = some (.cells #[.string (strOf s.rest), .bool s.wrong] 121)
  len : s.rest.length ≤ maxLen
theorem Pd.c0 {w : World} {q : Nat} {s : RS} (h : Pd w q s) : w.cell? ⟨q, 0, none⟩ = some (.string (strOf s.rest)) := cell_blk h.box 0 _ rfl
theorem Pd.c1 {w : World} {q : Nat} {s : RS} (h : Pd w q s) : w.cell? ⟨q, 1, none⟩ = some (.bool s.wrong) := cell_blk h.box 1 _ rfl
theorem Pd.f {w : World} {q : Nat} {s : RS} (h : Pd w q s) (j : Nat) : w.frozen? ⟨q, j, none⟩ = false := frozen_blk h.box j
theorem Pd.lt {w : World} {q : Nat} {s : RS} (h : Pd w q s) : q < w.heap.size := by
  rcases Nat.lt_or_ge q w.heap.size with h1 | h1
  · exact h1
  · have := h.box; rw [Array.getElem?_eq_none h1] at this; cases this
theorem Pd.set0 {w : World} {q : Nat} {s : RS} (h : Pd w q s) (l : List UInt8) (hl : l.length ≤ maxLen) : Pd (w.setCell ⟨q, 0, none⟩ (.string (strOf l))) q ⟨l, s.wrong⟩ := by
  refine ⟨?_, hl⟩
  rw [setCell_eq_setRow w q 0 _ 121 (0, 0) _ h.box, setRow_heap w q _ _ 121 (0, 0) h.box]
  rfl
theorem Pd.spoil {w : World} {q : Nat} {s : RS} (h : Pd w q s) : Pd ((w.setCell ⟨q, 0, none⟩ (.string ⟨#[]⟩)).setCell ⟨q, 1, none⟩ (.bool true)) q spoiled := by
  have h1 := h.set0 [] (by simp)
  refine ⟨?_, by simp [spoiled]⟩
  have h1b := h1.box
  have e : (Value.string (strOf [])) = .string ⟨#[]⟩ := rfl
  rw [e] at h1b
  rw [setCell_eq_setRow _ q 1 _ 121 (0, 0) _ h1b, setRow_heap _ q _ _ 121 (0, 0) h1b]
  rfl
theorem Pd.kept {w w' : World} {q : Nat} {s : RS} (h : Pd w q s) (hb : w'.heap[q]? = w.heap[q]?) : Pd w' q s := ⟨hb.trans h.box, h.len⟩

set_option maxHeartbeats 400000 in
theorem pspoil_any {w : World} {q : Nat} {s : RS} (h : Pd w q s) : Calls Try.prog 80 #[.pointer (some ⟨q, 0, none⟩)] w fun e w' => e = .returned (.tuple #[]) ∧ Pd w' q spoiled ∧ w.grownBy w' (some q) := by
  have c0 := h.c0
  have c1 := h.c1
  have f0 := h.f 0
  have f1 := h.f 1
  have HF : Hid (Pd ((w.setCell ⟨q, 0, none⟩ (.string ⟨#[]⟩)).setCell ⟨q, 1, none⟩ (.bool true)) q spoiled ∧ w.grownBy ((w.setCell ⟨q, 0, none⟩ (.string ⟨#[]⟩)).setCell ⟨q, 1, none⟩ (.bool true)) (some q)) :=
    ⟨h.spoil, (Lib.grownBy_setCell w q 0 _).trans (Lib.grownBy_setCell _ q 1 _)⟩
  clear h
  go_enter Try.func80, Try.ntmps80
  go_wp2
  go_end0
  exact ⟨rfl, HF.out⟩

set_option maxHeartbeats 800000 in
theorem pnum_any {w : World} {q : Nat} {s : RS} (h : Pd w q s) : Calls Try.prog 69 #[.pointer (some ⟨q, 0, none⟩)] w fun e w' => e = .returned (.int .i64 (numS s).1) ∧ Pd w' q (numS s).2 ∧ w.grownBy w' (some q) := by
  have c0 := h.c0
  have f0 := h.f 0
  have H10 := hid (readInt_any (strOf s.rest) w (by rw [strOf_size]; exact h.len))
  rw [strOf_data] at H10
  have HS := hid (pspoil_any h)
  have hlen := h.len
  unfold maxLen at hlen
  have hrg := readL_range s.rest
  have HH := hid h
  have HN : Hid (numS s = if (readL s.rest).2.2 = 0 then ((readL s.rest).1, ⟨s.rest.drop (readL s.rest).2.1, s.wrong⟩) else (0, spoiled)) := rfl
  clear h
  have hsz := strOf_size s.rest
  generalize readL s.rest = R at *
  obtain ⟨n, k, e⟩ := R
  simp only at *
  obtain ⟨hn, hk, _⟩ := hrg
  by_cases he : e = 0
  · subst he
    have hx := extract_drop s.rest k
    have HF : Hid (numS s = (n, ⟨s.rest.drop k, s.wrong⟩)) := by show _ = _; rw [HN.out, if_pos rfl]
    have hk' : (k : Int) ≤ ((strOf s.rest).size : Int) := by rw [hsz]; omega
    have HD := hid (HH.out.set0 (s.rest.drop k) (by simp; unfold maxLen; omega))
    go_enter Try.func69, Try.ntmps69
    go_wp2_with (go_at_call 79; refine H10.out.mono ?_; rintro e w' ⟨rfl, rfl⟩)
    go_ret
    exact ⟨by rw [HF.out]; rfl, by rw [HF.out]; exact HD.out, Lib.grownBy_setCell _ q 0 _⟩
  · have hne : (e != 0) = true := by simp [he]
    have HF : Hid (numS s = (0, spoiled)) := by show _ = _; rw [HN.out, if_neg he]
    clear he
    go_enter Try.func69, Try.ntmps69
    go_wp2_with (first | (go_at_call 79; refine H10.out.mono ?_; rintro e w' ⟨rfl, rfl⟩) | (go_at_call 80; refine HS.out.mono ?_; rintro e w2 ⟨rfl, hr2, hg2⟩))
    go_ret
    exact ⟨by rw [HF.out]; rfl, by rw [HF.out]; exact hr2, hg2⟩

set_option maxHeartbeats 800000 in
theorem pcount_any {w : World} {q : Nat} {s : RS} (h : Pd w q s) (most : Int) (hm : 0 ≤ most) : Calls Try.prog 81 #[.pointer (some ⟨q, 0, none⟩), .int .i64 most] w fun e w' => e = .returned (.int .i64 (countS most s).1) ∧ Pd w' q (countS most s).2 ∧ w.grownBy w' (some q) := by
  have H54 := hid (pnum_any h)
  have HN : Hid (countS most s = if (numS s).1 < 0 ∨ most < (numS s).1 then (0, spoiled) else numS s) := rfl
  clear h
  generalize numS s = N at *
  obtain ⟨n, s1⟩ := N
  simp only at *
  by_cases h1 : n < 0
  · have HF : Hid (countS most s = (0, spoiled)) := by show _ = _; rw [HN.out, if_pos (.inl h1)]
    go_enter Try.func81, Try.ntmps81
    go_wp2_with (go_at_call 69; refine H54.out.mono ?_; rintro e w1 ⟨rfl, hr1, hg1⟩)
    refine (pspoil_any hr1).mono ?_
    rintro e w2 ⟨rfl, hr2, hg2⟩
    go_wp2
    go_ret
    exact ⟨by rw [HF.out]; rfl, by rw [HF.out]; exact hr2, hg1.trans hg2⟩
  · by_cases h2 : most < n
    · have HF : Hid (countS most s = (0, spoiled)) := by show _ = _; rw [HN.out, if_pos (.inr h2)]
      go_enter Try.func81, Try.ntmps81
      go_wp2_with (go_at_call 69; refine H54.out.mono ?_; rintro e w1 ⟨rfl, hr1, hg1⟩)
      refine (pspoil_any hr1).mono ?_
      rintro e w2 ⟨rfl, hr2, hg2⟩
      go_wp2
      go_ret
      exact ⟨by rw [HF.out]; rfl, by rw [HF.out]; exact hr2, hg1.trans hg2⟩
    · have HF : Hid (countS most s = (n, s1)) := by show _ = _; rw [HN.out, if_neg (by omega)]
      go_enter Try.func81, Try.ntmps81
      go_wp2_with (go_at_call 69; refine H54.out.mono ?_; rintro e w1 ⟨rfl, hr1, hg1⟩)
      go_ret
      exact ⟨by rw [HF.out]; rfl, by rw [HF.out]; exact hr1, hg1⟩
set_option maxHeartbeats 1600000 in
theorem ptext_any {w : World} {q : Nat} {s : RS} (h : Pd w q s) (most : Int) (hm : 0 ≤ most) (hm2 : most ≤ 100000) : Calls Try.prog 71 #[.pointer (some ⟨q, 0, none⟩), .int .i64 most] w fun e w' => e = .returned (.string (strOf (textS most s).1)) ∧ Pd w' q (textS most s).2 ∧ w.grownBy w' (some q) := by
  have H50 := hid (pcount_any h most hm)
  have HN : Hid (textS most s = if ((countS most s).2.rest.length : Int) < (countS most s).1 then ([], spoiled) else ((countS most s).2.rest.take (countS most s).1.toNat, ⟨(countS most s).2.rest.drop (countS most s).1.toNat, (countS most s).2.wrong⟩)) := rfl
  have hrg := countS_range most s hm
  clear h
  generalize countS most s = N at *
  obtain ⟨n0, s1⟩ := N
  simp only at *
  obtain ⟨n, rfl⟩ := Int.eq_ofNat_of_zero_le hrg.1
  obtain ⟨_, hn⟩ := hrg
  have hsz := strOf_size s1.rest
  by_cases h1 : s1.rest.length < n
  · have h1' : ((strOf s1.rest).size : Int) < (n : Int) := by rw [hsz]; omega
    have h1'' : (s1.rest.length : Int) < (n : Int) := by omega
    have HF : Hid (textS most s = ([], spoiled)) := by show _ = _; rw [HN.out, if_pos (by omega)]
    go_enter Try.func71, Try.ntmps71
    go_wp2_with (go_at_call 81; refine H50.out.mono ?_; rintro e w1 ⟨rfl, hr1, hg1⟩; have d0 := hr1.c0)
    refine (pspoil_any hr1).mono ?_
    rintro e w2 ⟨rfl, hr2, hg2⟩
    go_wp2
    go_ret
    exact ⟨by rw [HF.out]; rfl, by rw [HF.out]; exact hr2, hg1.trans hg2⟩
  · have h1'' : ¬ (s1.rest.length : Int) < (n : Int) := by omega
    have HF : Hid (textS most s = (s1.rest.take n, ⟨s1.rest.drop n, s1.wrong⟩)) := by show _ = _; rw [HN.out, if_neg (by omega)]; simp
    have hx1 := extract_drop s1.rest n
    have hx2 := extract_take s1.rest n
    go_enter Try.func71, Try.ntmps71
    go_wp2_with (go_at_call 81; refine H50.out.mono ?_; rintro e w1 ⟨rfl, hr1, hg1⟩; have d0 := hr1.c0; have hl1 := hr1.len; unfold maxLen at hl1)
    refine (clone_any _ _ (by rw [strOf_size]; simp; omega)).mono ?_
    rintro e w2 ⟨rfl, hb2⟩
    have hr2 := hr1.kept (hb2.block q hr1.lt)
    have e0 := hr2.c0
    have f0 := hr2.f 0
    have HD := hid (hr2.set0 (s1.rest.drop n) (by simp; unfold maxLen; omega))
    have hg2 := hid ((hg1.trans (grown_below hb2)).trans (Lib.grownBy_setCell w2 q 0 (.string (strOf (s1.rest.drop n)))))
    clear hb2 hr1 d0
    go_wp2
    go_ret
    exact ⟨by rw [HF.out]; rfl, by rw [HF.out]; exact HD.out, hg2.out⟩

theorem Pd.set {w : World} {q : Nat} {s : RS} (h : Pd w q s) (b j : Nat) (v : Value) (hb : q ≠ b) : Pd (w.setCell ⟨b, j, none⟩ v) q s := h.kept (Below.heap_setCell w ⟨b, j, none⟩ v q hb)
set_option maxHeartbeats 400000 in
theorem pdone_any {w : World} {q : Nat} {s : RS} (h : Pd w q s) : Calls Try.prog 70 #[.pointer (some ⟨q, 0, none⟩)] w fun e w' => e = .returned (.bool (doneS s)) ∧ w = w' := by
  have c0 := h.c0
  have c1 := h.c1
  have HN : Hid (doneS s = (!s.wrong && s.rest.isEmpty)) := rfl
  clear h
  obtain ⟨l, wr⟩ := s
  simp only at *
  cases wr with
  | true =>
    go_enter Try.func70, Try.ntmps70
    go_wp2
    go_ret
    exact ⟨ret_bool (by rw [HN.out]; rfl), rfl⟩
  | false =>
    go_enter Try.func70, Try.ntmps70
    go_wp2
    go_ret
    exact ⟨ret_bool (by rw [HN.out, Lib.toList_data, strOf_data]; rfl), rfl⟩
end Go.Proofs.Ytbgmehanhilicaa

