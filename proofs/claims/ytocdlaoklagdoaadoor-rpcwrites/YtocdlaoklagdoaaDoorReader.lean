/- The reader: what is left of some bytes, in memory; spoil, number, count. -/
import Derived.Test.YtocdlaoklagdoaaDoorBatch
import Derived.Lib.BufferWrite
namespace Go.Proofs.YtocdlaoklagdoaaDoor
open Go.RowKit Go.Maps
set_option linter.unusedSimpArgs false
set_option linter.unusedVariables false
set_option maxRecDepth 100000

/-- A reader in block q. -/
structure Rd (w : World) (q : Nat) (s : RS) : Prop where
  box : w.heap[q]? = some (.cells #[.string (strOf s.rest), .bool s.wrong] 116)
  len : s.rest.length ≤ maxLen
theorem Rd.c0 {w : World} {q : Nat} {s : RS} (h : Rd w q s) : w.cell? ⟨q, 0, none⟩ = some (.string (strOf s.rest)) := cell_blk h.box 0 _ rfl
theorem Rd.c1 {w : World} {q : Nat} {s : RS} (h : Rd w q s) : w.cell? ⟨q, 1, none⟩ = some (.bool s.wrong) := cell_blk h.box 1 _ rfl
theorem frozen_blk {w : World} {q : Nat} {cs : Array Value} {T : TypeId} (h : w.heap[q]? = some (.cells cs T)) (j : Nat) : w.frozen? ⟨q, j, none⟩ = false := by
  simp [World.frozen?, h]
theorem Rd.f {w : World} {q : Nat} {s : RS} (h : Rd w q s) (j : Nat) : w.frozen? ⟨q, j, none⟩ = false := frozen_blk h.box j
theorem Rd.lt {w : World} {q : Nat} {s : RS} (h : Rd w q s) : q < w.heap.size := by
  rcases Nat.lt_or_ge q w.heap.size with h1 | h1
  · exact h1
  · have := h.box; rw [Array.getElem?_eq_none h1] at this; cases this
theorem Rd.set0 {w : World} {q : Nat} {s : RS} (h : Rd w q s) (l : List UInt8) (hl : l.length ≤ maxLen) : Rd (w.setCell ⟨q, 0, none⟩ (.string (strOf l))) q ⟨l, s.wrong⟩ := by
  refine ⟨?_, hl⟩
  rw [setCell_eq_setRow w q 0 _ 116 (0, 0) _ h.box, setRow_heap w q _ _ 116 (0, 0) h.box]
  rfl
theorem Rd.spoil {w : World} {q : Nat} {s : RS} (h : Rd w q s) : Rd ((w.setCell ⟨q, 0, none⟩ (.string ⟨#[]⟩)).setCell ⟨q, 1, none⟩ (.bool true)) q spoiled := by
  have h1 := h.set0 [] (by simp)
  refine ⟨?_, by simp [spoiled]⟩
  have h1b := h1.box
  have e : (Value.string (strOf [])) = .string ⟨#[]⟩ := rfl
  rw [e] at h1b
  rw [setCell_eq_setRow _ q 1 _ 116 (0, 0) _ h1b, setRow_heap _ q _ _ 116 (0, 0) h1b]
  rfl
theorem Rd.kept {w w' : World} {q : Nat} {s : RS} (h : Rd w q s) (hb : w'.heap[q]? = w.heap[q]?) : Rd w' q s := ⟨hb.trans h.box, h.len⟩

set_option maxHeartbeats 400000 in
theorem spoil_any {w : World} {q : Nat} {s : RS} (h : Rd w q s) : Calls Tryd.prog 100 #[.pointer (some ⟨q, 0, none⟩)] w fun e w' => e = .returned (.tuple #[]) ∧ Rd w' q spoiled ∧ w.grownBy w' (some q) := by
  have c0 := h.c0
  have c1 := h.c1
  have f0 := h.f 0
  have f1 := h.f 1
  have HF : Hid (Rd ((w.setCell ⟨q, 0, none⟩ (.string ⟨#[]⟩)).setCell ⟨q, 1, none⟩ (.bool true)) q spoiled ∧ w.grownBy ((w.setCell ⟨q, 0, none⟩ (.string ⟨#[]⟩)).setCell ⟨q, 1, none⟩ (.bool true)) (some q)) :=
    ⟨h.spoil, (Lib.grownBy_setCell w q 0 _).trans (Lib.grownBy_setCell _ q 1 _)⟩
  clear h
  go_enter Tryd.func100, Tryd.ntmps100
  go_wp2
  go_end0
  exact ⟨rfl, HF.out⟩

theorem extract_drop (l : List UInt8) (k : Nat) : (strOf l).extract k l.length = strOf (l.drop k) := by
  rw [Lib.extract_eq, strOf_data, List.take_of_length_le (by simp)]
  rfl
theorem extract_take (l : List UInt8) (k : Nat) : (strOf l).extract 0 k = strOf (l.take k) := by
  rw [Lib.extract_eq, strOf_data]
  simp [strOf]

set_option maxHeartbeats 800000 in
theorem number_any {w : World} {q : Nat} {s : RS} (h : Rd w q s) : Calls Tryd.prog 99 #[.pointer (some ⟨q, 0, none⟩)] w fun e w' => e = .returned (.int .i64 (numS s).1) ∧ Rd w' q (numS s).2 ∧ w.grownBy w' (some q) := by
  have c0 := h.c0
  have f0 := h.f 0
  have H10 := hid (readInt_any (strOf s.rest) w (by rw [strOf_size]; exact h.len))
  rw [strOf_data] at H10
  have HS := hid (spoil_any h)
  have hlen := h.len
  unfold maxLen at hlen
  have hrg := readL_range s.rest
  have HH := hid h
  have HN : Hid (numS s = if (readL s.rest).2.2 = 0 then ((readL s.rest).1, ⟨s.rest.drop (readL s.rest).2.1, s.wrong⟩) else (0, spoiled)) := rfl
  clear h
  have hsz := strOf_size s.rest
  generalize readL s.rest = R at *
  obtain ⟨n, k, e⟩ := R
  simp only at *
  obtain ⟨hn, hk, _⟩ := hrg
  by_cases he : e = 0
  · subst he
    have hx := extract_drop s.rest k
    have HF : Hid (numS s = (n, ⟨s.rest.drop k, s.wrong⟩)) := by show _ = _; rw [HN.out, if_pos rfl]
    have hk' : (k : Int) ≤ ((strOf s.rest).size : Int) := by rw [hsz]; omega
    have HD := hid (HH.out.set0 (s.rest.drop k) (by simp; unfold maxLen; omega))
    go_enter Tryd.func99, Tryd.ntmps99
    go_wp2_with (go_at_call 78; refine H10.out.mono ?_; rintro e w' ⟨rfl, rfl⟩)
    go_ret
    exact ⟨by rw [HF.out]; rfl, by rw [HF.out]; exact HD.out, Lib.grownBy_setCell _ q 0 _⟩
  · have hne : (e != 0) = true := by simp [he]
    have HF : Hid (numS s = (0, spoiled)) := by show _ = _; rw [HN.out, if_neg he]
    clear he
    go_enter Tryd.func99, Tryd.ntmps99
    go_wp2_with (first | (go_at_call 78; refine H10.out.mono ?_; rintro e w' ⟨rfl, rfl⟩) | (go_at_call 100; refine HS.out.mono ?_; rintro e w2 ⟨rfl, hr2, hg2⟩))
    go_ret
    exact ⟨by rw [HF.out]; rfl, by rw [HF.out]; exact hr2, hg2⟩

set_option maxHeartbeats 800000 in
theorem count_any {w : World} {q : Nat} {s : RS} (h : Rd w q s) (most : Int) (hm : 0 ≤ most) : Calls Tryd.prog 96 #[.pointer (some ⟨q, 0, none⟩), .int .i64 most] w fun e w' => e = .returned (.int .i64 (countS most s).1) ∧ Rd w' q (countS most s).2 ∧ w.grownBy w' (some q) := by
  have H54 := hid (number_any h)
  have HN : Hid (countS most s = if (numS s).1 < 0 ∨ most < (numS s).1 then (0, spoiled) else numS s) := rfl
  clear h
  generalize numS s = N at *
  obtain ⟨n, s1⟩ := N
  simp only at *
  by_cases h1 : n < 0
  · have HF : Hid (countS most s = (0, spoiled)) := by show _ = _; rw [HN.out, if_pos (.inl h1)]
    go_enter Tryd.func96, Tryd.ntmps96
    go_wp2_with (go_at_call 99; refine H54.out.mono ?_; rintro e w1 ⟨rfl, hr1, hg1⟩)
    refine (spoil_any hr1).mono ?_
    rintro e w2 ⟨rfl, hr2, hg2⟩
    go_wp2
    go_ret
    exact ⟨by rw [HF.out]; rfl, by rw [HF.out]; exact hr2, hg1.trans hg2⟩
  · by_cases h2 : most < n
    · have HF : Hid (countS most s = (0, spoiled)) := by show _ = _; rw [HN.out, if_pos (.inr h2)]
      go_enter Tryd.func96, Tryd.ntmps96
      go_wp2_with (go_at_call 99; refine H54.out.mono ?_; rintro e w1 ⟨rfl, hr1, hg1⟩)
      refine (spoil_any hr1).mono ?_
      rintro e w2 ⟨rfl, hr2, hg2⟩
      go_wp2
      go_ret
      exact ⟨by rw [HF.out]; rfl, by rw [HF.out]; exact hr2, hg1.trans hg2⟩
    · have HF : Hid (countS most s = (n, s1)) := by show _ = _; rw [HN.out, if_neg (by omega)]
      go_enter Tryd.func96, Tryd.ntmps96
      go_wp2_with (go_at_call 99; refine H54.out.mono ?_; rintro e w1 ⟨rfl, hr1, hg1⟩)
      go_ret
      exact ⟨by rw [HF.out]; rfl, by rw [HF.out]; exact hr1, hg1⟩
end Go.Proofs.YtocdlaoklagdoaaDoor
