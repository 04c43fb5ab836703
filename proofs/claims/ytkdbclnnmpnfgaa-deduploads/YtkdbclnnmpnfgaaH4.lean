/- Right and Batch. -/
import Derived.Test.YtkdbclnnmpnfgaaH3
import Derived.Lib.BufferWrite
import Derived.Deep.RegionHeld3
namespace Go.Proofs.Ytkdbclnnmpnfgaa
open Go.RowKit Go.Maps
set_option linter.unusedSimpArgs false
set_option linter.unusedVariables false
set_option maxRecDepth 100000

/-- A box of the call's own that is as it was laid. -/
structure Boxed (w W : World) (O : Obj) : Prop where
  below : Below w.heap.size w W
  box : W.heap[w.heap.size]? = some O
theorem Boxed.lt {w W : World} {O : Obj} (h : Boxed w W O) : w.heap.size < W.heap.size := by
  rcases Nat.lt_or_ge w.heap.size W.heap.size with h1 | h1
  · exact h1
  · have := h.box; rw [Array.getElem?_eq_none h1] at this; cases this
theorem Boxed.laid (w : World) (O : Obj) : Boxed w (w.alloc O) O := ⟨(Below.refl _ _).alloc (Nat.le_refl _) _, heap_alloc_new w O⟩
theorem Boxed.next {w W W' : World} {O : Obj} (h : Boxed w W O) (hb : Below W.heap.size W W') : Boxed w W' O := ⟨h.below.trans (hb.mono (Nat.le_of_lt h.lt)), (hb.block _ h.lt).trans h.box⟩
theorem six {w W : World} {a0 a1 a2 a3 a4 a5 : Value} {T : TypeId} (h : Boxed w W (.cells #[a0, a1, a2, a3, a4, a5] T)) :
    W.cell? ⟨w.heap.size, 0, none⟩ = some a0 ∧ W.cell? ⟨w.heap.size, 1, none⟩ = some a1 ∧ W.cell? ⟨w.heap.size, 2, none⟩ = some a2 ∧ W.cell? ⟨w.heap.size, 3, none⟩ = some a3 ∧ W.cell? ⟨w.heap.size, 4, none⟩ = some a4 ∧ W.cell? ⟨w.heap.size, 5, none⟩ = some a5 :=
  ⟨cell_blk h.box 0 a0 rfl, cell_blk h.box 1 a1 rfl, cell_blk h.box 2 a2 rfl, cell_blk h.box 3 a3 rfl, cell_blk h.box 4 a4 rfl, cell_blk h.box 5 a5 rfl⟩

theorem long_no {l : List Rec} (h : longB l = false) : ∀ r ∈ l, r.key.length ≤ 1000 ∧ r.val.length ≤ 1000 := by
  intro r hr
  simp only [longB, List.any_eq_false, Bool.or_eq_true, decide_eq_true_eq] at h
  have c := h r hr
  omega

set_option maxHeartbeats 3200000 in
theorem right_any {w : World} (b : Bat) (a : Option Addr) (cap : Nat) (hr : Recs w (.slice a b.recs.length cap) b.recs) (hi : b.ints) :
    Calls Try.prog 28 #[.agg #[.int .i64 b.base, .int .i64 b.epoch, .int .i64 b.pid, .int .i64 b.pidEpoch, .int .i64 b.seq, .slice a b.recs.length cap]] w fun e w' => e = .returned (.int .i64 (rightL b)) ∧ Below w.heap.size w w' := by
  have hlen := hr.len
  unfold maxLen at hlen
  have HX0 := hid (Boxed.laid w (.cells #[.int .i64 b.base, .int .i64 b.epoch, .int .i64 b.pid, .int .i64 b.pidEpoch, .int .i64 b.seq, .slice a b.recs.length cap] 33))
  have H34 : Hid (∀ W : World, Calls Try.prog 55 #[.agg #[.int .i64 b.base, .int .i64 b.epoch, .int .i64 b.pid, .int .i64 b.pidEpoch, .int .i64 b.seq, .slice a b.recs.length cap]] W fun e w' => e = .returned (.bool (numsB b)) ∧ Below W.heap.size W w') := fun W => rightNums_any b a b.recs.length cap hi
  have H35 : Hid (∀ W : World, Below w.heap.size w W → Calls Try.prog 56 #[.slice a b.recs.length cap] W fun e w' => e = .returned (.bool (timesB b.recs)) ∧ Below W.heap.size W w') := fun W h => rightTimes_any (hr.under h)
  have H36 : Hid (∀ W : World, Below w.heap.size w W → Calls Try.prog 57 #[.slice a b.recs.length cap] W fun e w' => e = .returned (.bool (longB b.recs)) ∧ Below W.heap.size W w') := fun W h => hasLong_any (hr.under h)
  have H37 : Hid (∀ W : World, Calls Try.prog 58 #[.agg #[.int .i64 b.base, .int .i64 b.epoch, .int .i64 b.pid, .int .i64 b.pidEpoch, .int .i64 b.seq, .slice a b.recs.length cap]] W fun e w' => e = .returned (.bool (overB b)) ∧ Below W.heap.size W w') := fun W => over_any b a cap hr.len
  cases hN : numsB b with
  | false =>
    have HF : Hid (rightL b = 1) := by
      show _ = _
      unfold rightL
      rw [if_pos (by rw [hN]; rfl)]
    go_enter Try.func28, Try.ntmps28
    go_wp2_with (go_at_call 55; refine (H34.out _).mono ?_; rintro e w1 ⟨rfl, hb1⟩; rw [hN]; have HX1 := hid (HX0.out.next hb1); obtain ⟨c10, c11, c12, c13, c14, c15⟩ := six HX1.out; clear hb1)
    go_ret
    exact ⟨ret_int HF.out.symm, HX1.out.below⟩
  | true =>
  cases hT : timesB b.recs with
  | false =>
    have HF : Hid (rightL b = 1) := by
      show _ = _
      unfold rightL
      rw [if_pos (by rw [hN, hT]; rfl)]
    go_enter Try.func28, Try.ntmps28
    go_wp2_with (go_at_call 55; refine (H34.out _).mono ?_; rintro e w1 ⟨rfl, hb1⟩; rw [hN]; have HX1 := hid (HX0.out.next hb1); obtain ⟨c10, c11, c12, c13, c14, c15⟩ := six HX1.out; clear hb1)
    go_wp2_with (go_at_call 56; refine (H35.out _ HX1.out.below).mono ?_; rintro e w2 ⟨rfl, hb2⟩; rw [hT]; have HX2 := hid (HX1.out.next hb2); obtain ⟨c20, c21, c22, c23, c24, c25⟩ := six HX2.out; clear hb2)
    go_ret
    exact ⟨ret_int HF.out.symm, HX2.out.below⟩
  | true =>
  by_cases h0 : b.recs.length = 0
  · have h0' : ((b.recs.length : Int) == 0) = true := by simp [h0]
    have hE : b.recs.isEmpty = true := by rw [List.isEmpty_iff]; exact List.eq_nil_of_length_eq_zero h0
    have HF : Hid (rightL b = 1) := by
      show _ = _
      unfold rightL
      rw [if_pos (by rw [hN, hT, hE]; rfl)]
    clear h0 hE
    go_enter Try.func28, Try.ntmps28
    go_wp2_with (go_at_call 55; refine (H34.out _).mono ?_; rintro e w1 ⟨rfl, hb1⟩; rw [hN]; have HX1 := hid (HX0.out.next hb1); obtain ⟨c10, c11, c12, c13, c14, c15⟩ := six HX1.out; clear hb1)
    go_wp2_with (go_at_call 56; refine (H35.out _ HX1.out.below).mono ?_; rintro e w2 ⟨rfl, hb2⟩; rw [hT]; have HX2 := hid (HX1.out.next hb2); obtain ⟨c20, c21, c22, c23, c24, c25⟩ := six HX2.out; clear hb2)
    go_ret
    exact ⟨ret_int HF.out.symm, HX2.out.below⟩
  · have h0' : ((b.recs.length : Int) == 0) = false := beq_false_of_ne (by omega)
    have hE : b.recs.isEmpty = false := by
      rw [Bool.eq_false_iff]; intro h; rw [List.isEmpty_iff] at h; rw [h] at h0; simp at h0
    by_cases h64 : 64 < b.recs.length
    · have h64' : 64 < (b.recs.length : Int) := by omega
      have HF : Hid (rightL b = 3) := by
        show _ = _
        unfold rightL
        rw [if_neg (by rw [hN, hT, hE]; simp), if_pos h64]
      clear hE
      go_enter Try.func28, Try.ntmps28
      go_wp2_with (go_at_call 55; refine (H34.out _).mono ?_; rintro e w1 ⟨rfl, hb1⟩; rw [hN]; have HX1 := hid (HX0.out.next hb1); obtain ⟨c10, c11, c12, c13, c14, c15⟩ := six HX1.out; clear hb1)
      go_wp2_with (go_at_call 56; refine (H35.out _ HX1.out.below).mono ?_; rintro e w2 ⟨rfl, hb2⟩; rw [hT]; have HX2 := hid (HX1.out.next hb2); obtain ⟨c20, c21, c22, c23, c24, c25⟩ := six HX2.out; clear hb2)
      go_ret
      exact ⟨ret_int HF.out.symm, HX2.out.below⟩
    · have h64' : ¬ 64 < (b.recs.length : Int) := by omega
      cases hL : longB b.recs with
      | true =>
        have HF : Hid (rightL b = 2) := by
          show _ = _
          unfold rightL
          rw [if_neg (by rw [hN, hT, hE]; simp), if_neg h64, if_pos hL]
        clear hE
        go_enter Try.func28, Try.ntmps28
        go_wp2_with (go_at_call 55; refine (H34.out _).mono ?_; rintro e w1 ⟨rfl, hb1⟩; rw [hN]; have HX1 := hid (HX0.out.next hb1); obtain ⟨c10, c11, c12, c13, c14, c15⟩ := six HX1.out; clear hb1)
        go_wp2_with (go_at_call 56; refine (H35.out _ HX1.out.below).mono ?_; rintro e w2 ⟨rfl, hb2⟩; rw [hT]; have HX2 := hid (HX1.out.next hb2); obtain ⟨c20, c21, c22, c23, c24, c25⟩ := six HX2.out; clear hb2)
        go_wp2_with (go_at_call 57; refine (H36.out _ HX2.out.below).mono ?_; rintro e w3 ⟨rfl, hb3⟩; rw [hL]; have HX3 := hid (HX2.out.next hb3); obtain ⟨c30, c31, c32, c33, c34, c35⟩ := six HX3.out; clear hb3)
        go_ret
        exact ⟨ret_int HF.out.symm, HX3.out.below⟩
      | false =>
      cases hO : overB b with
      | true =>
        have HF : Hid (rightL b = 20) := by
          show _ = _
          unfold rightL
          rw [if_neg (by rw [hN, hT, hE]; simp), if_neg h64, if_neg (by rw [hL]; simp), if_pos hO]
        clear hE
        go_enter Try.func28, Try.ntmps28
        go_wp2_with (go_at_call 55; refine (H34.out _).mono ?_; rintro e w1 ⟨rfl, hb1⟩; rw [hN]; have HX1 := hid (HX0.out.next hb1); obtain ⟨c10, c11, c12, c13, c14, c15⟩ := six HX1.out; clear hb1)
        go_wp2_with (go_at_call 56; refine (H35.out _ HX1.out.below).mono ?_; rintro e w2 ⟨rfl, hb2⟩; rw [hT]; have HX2 := hid (HX1.out.next hb2); obtain ⟨c20, c21, c22, c23, c24, c25⟩ := six HX2.out; clear hb2)
        go_wp2_with (go_at_call 57; refine (H36.out _ HX2.out.below).mono ?_; rintro e w3 ⟨rfl, hb3⟩; rw [hL]; have HX3 := hid (HX2.out.next hb3); obtain ⟨c30, c31, c32, c33, c34, c35⟩ := six HX3.out; clear hb3)
        go_wp2_with (go_at_call 58; refine (H37.out _).mono ?_; rintro e w4 ⟨rfl, hb4⟩; rw [hO]; have HX4 := hid (HX3.out.next hb4); obtain ⟨c40, c41, c42, c43, c44, c45⟩ := six HX4.out; clear hb4)
        go_ret
        exact ⟨ret_int HF.out.symm, HX4.out.below⟩
      | false =>
      have hsz := strOf_size (bodyL b)
      have H31 : Hid (∀ W : World, Below w.heap.size w W → Calls Try.prog 59 #[.agg #[.int .i64 b.base, .int .i64 b.epoch, .int .i64 b.pid, .int .i64 b.pidEpoch, .int .i64 b.seq, .slice a b.recs.length cap]] W fun e w' => e = .returned (.string (strOf (bodyL b))) ∧ Below W.heap.size W w') := fun W h => by
        obtain ⟨a2, cap2, e, ha⟩ := (hr.under h).shape
        cases e
        exact body_any b a cap ha hi (fun r hx => (hr.ok r hx).1) (by omega) (long_no hL)
      have hbs : (bodyL b).length ≤ 1000000 := by
        have := body_short b (by omega) (long_no hL) b.recs.length
        rw [List.take_length] at this
        exact this
      have HF0 : Hid (rightL b = if 4096 < (bodyL b).length + 8 then 2 else 0) := by
        show _ = _
        unfold rightL
        rw [if_neg (by rw [hN, hT, hE]; simp), if_neg h64, if_neg (by rw [hL]; simp), if_neg (by rw [hO]; simp)]
      clear hE
      by_cases hB : 4096 < (bodyL b).length + 8
      · have hB' : 4096 < 8 + ((bodyL b).length : Int) := by omega
        have HF : Hid (rightL b = 2) := by show _ = _; rw [HF0.out, if_pos hB]
        go_enter Try.func28, Try.ntmps28
        go_wp2_with (go_at_call 55; refine (H34.out _).mono ?_; rintro e w1 ⟨rfl, hb1⟩; rw [hN]; have HX1 := hid (HX0.out.next hb1); obtain ⟨c10, c11, c12, c13, c14, c15⟩ := six HX1.out; clear hb1)
        go_wp2_with (go_at_call 56; refine (H35.out _ HX1.out.below).mono ?_; rintro e w2 ⟨rfl, hb2⟩; rw [hT]; have HX2 := hid (HX1.out.next hb2); obtain ⟨c20, c21, c22, c23, c24, c25⟩ := six HX2.out; clear hb2)
        go_wp2_with (go_at_call 57; refine (H36.out _ HX2.out.below).mono ?_; rintro e w3 ⟨rfl, hb3⟩; rw [hL]; have HX3 := hid (HX2.out.next hb3); obtain ⟨c30, c31, c32, c33, c34, c35⟩ := six HX3.out; clear hb3)
        go_wp2_with (go_at_call 58; refine (H37.out _).mono ?_; rintro e w4 ⟨rfl, hb4⟩; rw [hO]; have HX4 := hid (HX3.out.next hb4); obtain ⟨c40, c41, c42, c43, c44, c45⟩ := six HX4.out; clear hb4)
        go_wp2_with (go_at_call 59; refine (H31.out _ HX4.out.below).mono ?_; rintro e w5 ⟨rfl, hb5⟩; have HX5 := hid (HX4.out.next hb5); obtain ⟨c50, c51, c52, c53, c54, c55⟩ := six HX5.out; clear hb5)
        go_ret
        exact ⟨ret_int HF.out.symm, HX5.out.below⟩
      · have hB' : ¬ 4096 < 8 + ((bodyL b).length : Int) := by omega
        have HF : Hid (rightL b = 0) := by show _ = _; rw [HF0.out, if_neg hB]
        go_enter Try.func28, Try.ntmps28
        go_wp2_with (go_at_call 55; refine (H34.out _).mono ?_; rintro e w1 ⟨rfl, hb1⟩; rw [hN]; have HX1 := hid (HX0.out.next hb1); obtain ⟨c10, c11, c12, c13, c14, c15⟩ := six HX1.out; clear hb1)
        go_wp2_with (go_at_call 56; refine (H35.out _ HX1.out.below).mono ?_; rintro e w2 ⟨rfl, hb2⟩; rw [hT]; have HX2 := hid (HX1.out.next hb2); obtain ⟨c20, c21, c22, c23, c24, c25⟩ := six HX2.out; clear hb2)
        go_wp2_with (go_at_call 57; refine (H36.out _ HX2.out.below).mono ?_; rintro e w3 ⟨rfl, hb3⟩; rw [hL]; have HX3 := hid (HX2.out.next hb3); obtain ⟨c30, c31, c32, c33, c34, c35⟩ := six HX3.out; clear hb3)
        go_wp2_with (go_at_call 58; refine (H37.out _).mono ?_; rintro e w4 ⟨rfl, hb4⟩; rw [hO]; have HX4 := hid (HX3.out.next hb4); obtain ⟨c40, c41, c42, c43, c44, c45⟩ := six HX4.out; clear hb4)
        go_wp2_with (go_at_call 59; refine (H31.out _ HX4.out.below).mono ?_; rintro e w5 ⟨rfl, hb5⟩; have HX5 := hid (HX4.out.next hb5); obtain ⟨c50, c51, c52, c53, c54, c55⟩ := six HX5.out; clear hb5)
        go_ret
        exact ⟨ret_int HF.out.symm, HX5.out.below⟩
end Go.Proofs.Ytkdbclnnmpnfgaa

/- Batch of wire. -/
namespace Go.Proofs.Ytkdbclnnmpnfgaa
open Go.RowKit Go.Maps
set_option linter.unusedSimpArgs false
set_option linter.unusedVariables false
set_option maxRecDepth 100000

theorem strOf_append (l m : List UInt8) : strOf l ++ strOf m = strOf (l ++ m) := by
  apply ByteArray.ext
  simp [strOf]

theorem right_facts {b : Bat} (h : rightL b = 0) : b.recs.length ≤ 64 ∧ (∀ r ∈ b.recs, r.key.length ≤ 1000 ∧ r.val.length ≤ 1000) ∧ (bodyL b).length ≤ 4088 := by
  obtain ⟨_, _, _, h4, h5, _, h7⟩ := rightL_ok h
  exact ⟨h4, long_no h5, h7⟩

end Go.Proofs.Ytkdbclnnmpnfgaa

/- The reader: what is left of some bytes, in memory; spoil, number, count. -/
namespace Go.Proofs.Ytkdbclnnmpnfgaa
open Go.RowKit Go.Maps
set_option linter.unusedSimpArgs false
set_option linter.unusedVariables false
set_option maxRecDepth 100000

theorem frozen_blk {w : World} {q : Nat} {cs : Array Value} {T : TypeId} (h : w.heap[q]? = some (.cells cs T)) (j : Nat) : w.frozen? ⟨q, j, none⟩ = false := by
  simp [World.frozen?, h]
theorem extract_drop (l : List UInt8) (k : Nat) : (strOf l).extract k l.length = strOf (l.drop k) := by
  rw [Lib.extract_eq, strOf_data, List.take_of_length_le (by simp)]
  rfl
theorem extract_take (l : List UInt8) (k : Nat) : (strOf l).extract 0 k = strOf (l.take k) := by
  rw [Lib.extract_eq, strOf_data]
  simp [strOf]

end Go.Proofs.Ytkdbclnnmpnfgaa

/- The reader's text, record, done, five. -/
namespace Go.Proofs.Ytkdbclnnmpnfgaa
open Go.RowKit Go.Maps
set_option linter.unusedSimpArgs false
set_option linter.unusedVariables false
set_option maxRecDepth 100000

theorem countS_range (most : Int) (s : RS) (hm : 0 ≤ most) : 0 ≤ (countS most s).1 ∧ (countS most s).1 ≤ most := by
  unfold countS
  split
  · simp [hm]
  · omega
theorem grown_below {w w' : World} {q : Nat} (hb : Below w.heap.size w w') : w.grownBy w' (some q) := ⟨hb.os, hb.tape, hb.output, hb.size, fun k hk _ => hb.block k hk⟩

theorem grown_box {w w3 : World} {O : Obj} {q : Nat} (hg : (w.alloc O).grownBy w3 (some q)) (hq : q < w.heap.size) : w3.heap[w.heap.size]? = some O :=
  (hg.block w.heap.size (by simp) (fun e => by cases e; omega)).trans (heap_alloc_new w O)
theorem grown_set {w w3 : World} {q : Nat} (hg : w.grownBy w3 (some q)) (b j : Nat) (v : Value) (hb : w.heap.size ≤ b) : w.grownBy (w3.setCell ⟨b, j, none⟩ v) (some q) :=
  hg.andThen (Lib.grownBy_setCell w3 b j v) (fun k hk => by cases hk; exact .inl hb)

end Go.Proofs.Ytkdbclnnmpnfgaa

