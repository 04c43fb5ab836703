/- The document's reader: Int, Text; and what they make of some bytes. -/
import Derived.Test.YtkdbclnnmpnfgaaH6
import Derived.Test.YtkdbclnnmpnfgaaHRread
namespace Go.Proofs.Ytkdbclnnmpnfgaa
open Go.RowKit Go.Maps
set_option linter.unusedSimpArgs false
set_option linter.unusedVariables false
set_option maxRecDepth 100000

/-- A text, as the document's reader takes it: what is wrong leaves the rest as it was. -/
def textR (most : Int) (s : RS) : List UInt8 × RS :=
  if (numS s).1 < 0 ∨ most < (numS s).1 ∨ ((numS s).2.rest.length : Int) < (numS s).1 then ([], ⟨(numS s).2.rest, true⟩)
  else ((numS s).2.rest.take (numS s).1.toNat, ⟨(numS s).2.rest.drop (numS s).1.toNat, (numS s).2.wrong⟩)

structure Rf (w : World) (q : Nat) (s : RS) : Prop where
  box : w.heap[q]? = some (.cells #[.string (strOf s.rest), .bool s.wrong] 96)
  len : s.rest.length ≤ maxLen
theorem Rf.c0 {w : World} {q : Nat} {s : RS} (h : Rf w q s) : w.cell? ⟨q, 0, none⟩ = some (.string (strOf s.rest)) := cell_blk h.box 0 _ rfl
theorem Rf.c1 {w : World} {q : Nat} {s : RS} (h : Rf w q s) : w.cell? ⟨q, 1, none⟩ = some (.bool s.wrong) := cell_blk h.box 1 _ rfl
theorem Rf.f {w : World} {q : Nat} {s : RS} (h : Rf w q s) (j : Nat) : w.frozen? ⟨q, j, none⟩ = false := frozen_blk h.box j
theorem Rf.lt {w : World} {q : Nat} {s : RS} (h : Rf w q s) : q < w.heap.size := by
  rcases Nat.lt_or_ge q w.heap.size with h1 | h1
  · exact h1
  · have := h.box; rw [Array.getElem?_eq_none h1] at this; cases this
theorem Rf.set0 {w : World} {q : Nat} {s : RS} (h : Rf w q s) (l : List UInt8) (hl : l.length ≤ maxLen) : Rf (w.setCell ⟨q, 0, none⟩ (.string (strOf l))) q ⟨l, s.wrong⟩ := by
  refine ⟨?_, hl⟩
  rw [setCell_eq_setRow w q 0 _ 96 (0, 0) _ h.box, setRow_heap w q _ _ 96 (0, 0) h.box]
  rfl
theorem Rf.set1 {w : World} {q : Nat} {s : RS} (h : Rf w q s) : Rf (w.setCell ⟨q, 1, none⟩ (.bool true)) q ⟨s.rest, true⟩ := by
  refine ⟨?_, h.len⟩
  rw [setCell_eq_setRow w q 1 _ 96 (0, 0) _ h.box, setRow_heap w q _ _ 96 (0, 0) h.box]
  rfl
theorem Rf.spoil {w : World} {q : Nat} {s : RS} (h : Rf w q s) : Rf ((w.setCell ⟨q, 1, none⟩ (.bool true)).setCell ⟨q, 0, none⟩ (.string ⟨#[]⟩)) q spoiled :=
  h.set1.set0 [] (by simp)
theorem Rf.kept {w w' : World} {q : Nat} {s : RS} (h : Rf w q s) (hb : w'.heap[q]? = w.heap[q]?) : Rf w' q s := ⟨hb.trans h.box, h.len⟩

set_option maxHeartbeats 800000 in
theorem rnumber_any {w : World} {q : Nat} {s : RS} (h : Rf w q s) : Calls Try.prog 53 #[.pointer (some ⟨q, 0, none⟩)] w fun e w' => e = .returned (.int .i64 (numS s).1) ∧ Rf w' q (numS s).2 ∧ w.grownBy w' (some q) := by
  have c0 := h.c0
  have c1 := h.c1
  have f0 := h.f 0
  have f1 := h.f 1
  have H11 := hid (rreadInt_any (strOf s.rest) w (by rw [strOf_size]; exact h.len))
  rw [strOf_data] at H11
  have hlen := h.len
  unfold maxLen at hlen
  have hrg := readL_range s.rest
  have HH := hid h
  have HN : Hid (numS s = if (readL s.rest).2.2 = 0 then ((readL s.rest).1, ⟨s.rest.drop (readL s.rest).2.1, s.wrong⟩) else (0, spoiled)) := rfl
  clear h
  have hsz := strOf_size s.rest
  generalize readL s.rest = R at *
  obtain ⟨n, k, e⟩ := R
  simp only at *
  obtain ⟨hn, hk, _⟩ := hrg
  by_cases he : e = 0
  · subst he
    have hx := extract_drop s.rest k
    have HF : Hid (numS s = (n, ⟨s.rest.drop k, s.wrong⟩)) := by show _ = _; rw [HN.out, if_pos rfl]
    have hk' : (k : Int) ≤ ((strOf s.rest).size : Int) := by rw [hsz]; omega
    have HD := hid (HH.out.set0 (s.rest.drop k) (by simp; unfold maxLen; omega))
    go_enter Try.func53, Try.ntmps53
    go_wp2_with (go_at_call 75; refine H11.out.mono ?_; rintro e w' ⟨rfl, rfl⟩)
    go_ret
    exact ⟨by rw [HF.out]; rfl, by rw [HF.out]; exact HD.out, Lib.grownBy_setCell _ q 0 _⟩
  · have hne : (e != 0) = true := by simp [he]
    have HF : Hid (numS s = (0, spoiled)) := by show _ = _; rw [HN.out, if_neg he]
    have HD := hid HH.out.spoil
    clear he
    go_enter Try.func53, Try.ntmps53
    go_wp2_with (go_at_call 75; refine H11.out.mono ?_; rintro e w' ⟨rfl, rfl⟩)
    go_ret
    exact ⟨by rw [HF.out]; rfl, by rw [HF.out]; exact HD.out, (Lib.grownBy_setCell _ q 1 _).trans (Lib.grownBy_setCell _ q 0 _)⟩

end Go.Proofs.Ytkdbclnnmpnfgaa

