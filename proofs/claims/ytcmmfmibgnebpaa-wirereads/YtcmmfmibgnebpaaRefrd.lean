/- The document's reader: Int, Text; and what they make of some bytes. -/
import Derived.Test.YtcmmfmibgnebpaaMbody
import Derived.Test.YtcmmfmibgnebpaaRread
namespace Go.Proofs.Ytcmmfmibgnebpaa
open Go.RowKit Go.Maps
set_option linter.unusedSimpArgs false
set_option linter.unusedVariables false
set_option maxRecDepth 100000

/-- A text, as the document's reader takes it: what is wrong leaves the rest as it was. -/
def textR (most : Int) (s : RS) : List UInt8 × RS :=
  if (numS s).1 < 0 ∨ most < (numS s).1 ∨ ((numS s).2.rest.length : Int) < (numS s).1 then ([], ⟨(numS s).2.rest, true⟩)
  else ((numS s).2.rest.take (numS s).1.toNat, ⟨(numS s).2.rest.drop (numS s).1.toNat, (numS s).2.wrong⟩)

structure Rf (w : World) (q : Nat) (s : RS) : Prop where
  box : w.heap[q]? = some (.cells #[.string (strOf s.rest), .bool s.wrong] 64)
  len : s.rest.length ≤ maxLen
theorem Rf.c0 {w : World} {q : Nat} {s : RS} (h : Rf w q s) : w.cell? ⟨q, 0, none⟩ = some (.string (strOf s.rest)) := cell_blk h.box 0 _ rfl
theorem Rf.c1 {w : World} {q : Nat} {s : RS} (h : Rf w q s) : w.cell? ⟨q, 1, none⟩ = some (.bool s.wrong) := cell_blk h.box 1 _ rfl
theorem Rf.f {w : World} {q : Nat} {s : RS} (h : Rf w q s) (j : Nat) : w.frozen? ⟨q, j, none⟩ = false := frozen_blk h.box j
theorem Rf.lt {w : World} {q : Nat} {s : RS} (h : Rf w q s) : q < w.heap.size := by
  rcases Nat.lt_or_ge q w.heap.size with h1 | h1
  · exact h1
  · have := h.box; rw [Array.getElem?_eq_none h1] at this; cases this
theorem Rf.set0 {w : World} {q : Nat} {s : RS} (h : Rf w q s) (l : List UInt8) (hl : l.length ≤ maxLen) : Rf (w.setCell ⟨q, 0, none⟩ (.string (strOf l))) q ⟨l, s.wrong⟩ := by
  refine ⟨?_, hl⟩
  rw [setCell_eq_setRow w q 0 _ 64 (0, 0) _ h.box, setRow_heap w q _ _ 64 (0, 0) h.box]
  rfl
theorem Rf.set1 {w : World} {q : Nat} {s : RS} (h : Rf w q s) : Rf (w.setCell ⟨q, 1, none⟩ (.bool true)) q ⟨s.rest, true⟩ := by
  refine ⟨?_, h.len⟩
  rw [setCell_eq_setRow w q 1 _ 64 (0, 0) _ h.box, setRow_heap w q _ _ 64 (0, 0) h.box]
  rfl
theorem Rf.spoil {w : World} {q : Nat} {s : RS} (h : Rf w q s) : Rf ((w.setCell ⟨q, 1, none⟩ (.bool true)).setCell ⟨q, 0, none⟩ (.string ⟨#[]⟩)) q spoiled :=
  h.set1.set0 [] (by simp)
theorem Rf.kept {w w' : World} {q : Nat} {s : RS} (h : Rf w q s) (hb : w'.heap[q]? = w.heap[q]?) : Rf w' q s := ⟨hb.trans h.box, h.len⟩

set_option maxHeartbeats 800000 in
theorem rnumber_any {w : World} {q : Nat} {s : RS} (h : Rf w q s) : Calls Try.prog 41 #[.pointer (some ⟨q, 0, none⟩)] w fun e w' => e = .returned (.int .i64 (numS s).1) ∧ Rf w' q (numS s).2 ∧ w.grownBy w' (some q) := by
  have c0 := h.c0
  have c1 := h.c1
  have f0 := h.f 0
  have f1 := h.f 1
  have H11 := hid (rreadInt_any (strOf s.rest) w (by rw [strOf_size]; exact h.len))
  rw [strOf_data] at H11
  have hlen := h.len
  unfold maxLen at hlen
  have hrg := readL_range s.rest
  have HH := hid h
  have HN : Hid (numS s = if (readL s.rest).2.2 = 0 then ((readL s.rest).1, ⟨s.rest.drop (readL s.rest).2.1, s.wrong⟩) else (0, spoiled)) := rfl
  clear h
  have hsz := strOf_size s.rest
  generalize readL s.rest = R at *
  obtain ⟨n, k, e⟩ := R
  simp only at *
  obtain ⟨hn, hk, _⟩ := hrg
  by_cases he : e = 0
  · subst he
    have hx := extract_drop s.rest k
    have HF : Hid (numS s = (n, ⟨s.rest.drop k, s.wrong⟩)) := by show _ = _; rw [HN.out, if_pos rfl]
    have hk' : (k : Int) ≤ ((strOf s.rest).size : Int) := by rw [hsz]; omega
    have HD := hid (HH.out.set0 (s.rest.drop k) (by simp; unfold maxLen; omega))
    go_enter Try.func41, Try.ntmps41
    go_wp2_with (go_at_call 11; refine H11.out.mono ?_; rintro e w' ⟨rfl, rfl⟩)
    go_ret
    exact ⟨by rw [HF.out]; rfl, by rw [HF.out]; exact HD.out, Lib.grownBy_setCell _ q 0 _⟩
  · have hne : (e != 0) = true := by simp [he]
    have HF : Hid (numS s = (0, spoiled)) := by show _ = _; rw [HN.out, if_neg he]
    have HD := hid HH.out.spoil
    clear he
    go_enter Try.func41, Try.ntmps41
    go_wp2_with (go_at_call 11; refine H11.out.mono ?_; rintro e w' ⟨rfl, rfl⟩)
    go_ret
    exact ⟨by rw [HF.out]; rfl, by rw [HF.out]; exact HD.out, (Lib.grownBy_setCell _ q 1 _).trans (Lib.grownBy_setCell _ q 0 _)⟩

set_option maxHeartbeats 1600000 in
theorem rtext_any {w : World} {q : Nat} {s : RS} (h : Rf w q s) (most : Int) (hm : 0 ≤ most) (hm2 : most ≤ 1000) : Calls Try.prog 42 #[.pointer (some ⟨q, 0, none⟩), .int .i64 most] w fun e w' => e = .returned (.string (strOf (textR most s).1)) ∧ Rf w' q (textR most s).2 ∧ w.grownBy w' (some q) := by
  have H41 := hid (rnumber_any h)
  have HN : Hid (textR most s = if (numS s).1 < 0 ∨ most < (numS s).1 ∨ ((numS s).2.rest.length : Int) < (numS s).1 then ([], ⟨(numS s).2.rest, true⟩)
      else ((numS s).2.rest.take (numS s).1.toNat, ⟨(numS s).2.rest.drop (numS s).1.toNat, (numS s).2.wrong⟩)) := rfl
  clear h
  generalize numS s = N at *
  obtain ⟨n0, s1⟩ := N
  simp only at *
  have hsz := strOf_size s1.rest
  by_cases h0 : n0 < 0 ∨ most < n0 ∨ (s1.rest.length : Int) < n0
  · have HF : Hid (textR most s = ([], ⟨s1.rest, true⟩)) := by show _ = _; rw [HN.out, if_pos h0]
    rcases h0 with h1 | h1
    · go_enter Try.func42, Try.ntmps42
      go_wp2_with (go_at_call 41; refine H41.out.mono ?_; rintro e w1 ⟨rfl, hr1, hg1⟩; have d0 := hr1.c0; have d1 := hr1.c1; have f1 := hr1.f 1; have HD := hid hr1.set1; clear hr1)
      go_ret
      exact ⟨by rw [HF.out]; rfl, by rw [HF.out]; exact HD.out, hg1.trans (Lib.grownBy_setCell _ q 1 _)⟩
    · by_cases h2 : n0 < 0
      · exfalso; omega
      · by_cases h3 : most < n0
        · clear h1
          go_enter Try.func42, Try.ntmps42
          go_wp2_with (go_at_call 41; refine H41.out.mono ?_; rintro e w1 ⟨rfl, hr1, hg1⟩; have d0 := hr1.c0; have d1 := hr1.c1; have f1 := hr1.f 1; have HD := hid hr1.set1; clear hr1)
          go_ret
          exact ⟨by rw [HF.out]; rfl, by rw [HF.out]; exact HD.out, hg1.trans (Lib.grownBy_setCell _ q 1 _)⟩
        · have h4 : (s1.rest.length : Int) < n0 := by omega
          clear h1
          go_enter Try.func42, Try.ntmps42
          go_wp2_with (go_at_call 41; refine H41.out.mono ?_; rintro e w1 ⟨rfl, hr1, hg1⟩; have d0 := hr1.c0; have d1 := hr1.c1; have f1 := hr1.f 1; have HD := hid hr1.set1; clear hr1)
          go_ret
          exact ⟨by rw [HF.out]; rfl, by rw [HF.out]; exact HD.out, hg1.trans (Lib.grownBy_setCell _ q 1 _)⟩
  · have h1 : ¬ n0 < 0 := by omega
    have h2 : ¬ most < n0 := by omega
    have h3 : ¬ (s1.rest.length : Int) < n0 := by omega
    obtain ⟨n, rfl⟩ := Int.eq_ofNat_of_zero_le (show 0 ≤ n0 by omega)
    have HF : Hid (textR most s = (s1.rest.take n, ⟨s1.rest.drop n, s1.wrong⟩)) := by show _ = _; rw [HN.out, if_neg h0]; simp
    have hx1 := extract_drop s1.rest n
    have hx2 := extract_take s1.rest n
    have hnl : n ≤ s1.rest.length := by omega
    clear h0
    go_enter Try.func42, Try.ntmps42
    go_wp2_with (go_at_call 41; refine H41.out.mono ?_; rintro e w1 ⟨rfl, hr1, hg1⟩; have d0 := hr1.c0; have f0 := hr1.f 0; have hl1 := hr1.len; unfold maxLen at hl1; have HD := hid (hr1.set0 (s1.rest.drop n) (by simp; unfold maxLen; omega)); clear hr1)
    go_ret
    exact ⟨by rw [HF.out]; rfl, by rw [HF.out]; exact HD.out, hg1.trans (Lib.grownBy_setCell _ q 0 _)⟩
end Go.Proofs.Ytcmmfmibgnebpaa
