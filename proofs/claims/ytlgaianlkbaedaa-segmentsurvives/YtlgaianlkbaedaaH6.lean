/- Batch of wire. -/
import Derived.Test.YtlgaianlkbaedaaH5
import Derived.Lib.BufferWrite
import Derived.Shelf.Pu.Clone
namespace Go.Proofs.Ytlgaianlkbaedaa
open Go.RowKit Go.Maps
set_option linter.unusedSimpArgs false
set_option linter.unusedVariables false
set_option maxRecDepth 100000

theorem strOf_append (l m : List UInt8) : strOf l ++ strOf m = strOf (l ++ m) := by
  apply ByteArray.ext
  simp [strOf]

theorem right_facts {b : Bat} (h : rightL b = 0) : b.recs.length ≤ 64 ∧ (∀ r ∈ b.recs, r.key.length ≤ 1000 ∧ r.val.length ≤ 1000) ∧ (bodyL b).length ≤ 4088 := by
  obtain ⟨_, _, _, h4, h5, _, h7⟩ := rightL_ok h
  exact ⟨h4, long_no h5, h7⟩

set_option maxHeartbeats 1600000 in
theorem batch_any {w : World} (b : Bat) (a : Option Addr) (cap : Nat) (hr : Recs w (.slice a b.recs.length cap) b.recs) (hi : b.ints) :
    Calls Try.prog 30 #[.agg #[.int .i64 b.base, .int .i64 b.epoch, .int .i64 b.pid, .int .i64 b.pidEpoch, .int .i64 b.seq, .slice a b.recs.length cap]] w fun e w' => e = .returned (.tuple #[.string (strOf (batchL b).1), .int .i64 (batchL b).2]) ∧ Below w.heap.size w w' := by
  have HX0 := hid (Boxed.laid w (.cells #[.int .i64 b.base, .int .i64 b.epoch, .int .i64 b.pid, .int .i64 b.pidEpoch, .int .i64 b.seq, .slice a b.recs.length cap] 34))
  have H18 : Hid (∀ W : World, Below w.heap.size w W → Calls Try.prog 51 #[.agg #[.int .i64 b.base, .int .i64 b.epoch, .int .i64 b.pid, .int .i64 b.pidEpoch, .int .i64 b.seq, .slice a b.recs.length cap]] W fun e w' => e = .returned (.int .i64 (rightL b)) ∧ Below W.heap.size W w') := fun W h => right_any b a cap (hr.under h) hi
  by_cases hR : rightL b = 0
  · obtain ⟨h1, h2, h3⟩ := right_facts hR
    have HF : Hid (batchL b = (fourL (bodyL b).length ++ fourL (crcL (bodyL b)) ++ bodyL b, 0)) := by show _ = _; unfold batchL; rw [if_pos hR]
    have H31 : Hid (∀ W : World, Below w.heap.size w W → Calls Try.prog 52 #[.agg #[.int .i64 b.base, .int .i64 b.epoch, .int .i64 b.pid, .int .i64 b.pidEpoch, .int .i64 b.seq, .slice a b.recs.length cap]] W fun e w' => e = .returned (.string (strOf (bodyL b))) ∧ Below W.heap.size W w') := fun W h => by
      obtain ⟨a2, cap2, e, ha⟩ := (hr.under h).shape
      cases e
      exact body_any b a cap ha hi (fun r hx => (hr.ok r hx).1) h1 h2
    have HR := hid hR
    clear h1 h2 hR hr
    generalize bodyL b = L at *
    have hsz := strOf_size L
    have hcrc := crcL_lt L
    have H14 := hid (fun W => crc_any (strOf L) W (by rw [hsz]; unfold maxLen; omega))
    rw [strOf_data] at H14
    have H32a := hid (fun W => four_any L.length W (by omega))
    have H32b := hid (fun W => four_any (crcL L) W hcrc)
    have e1 := strOf_append (fourL L.length) (fourL (crcL L))
    have e2 := strOf_append (fourL L.length ++ fourL (crcL L)) L
    generalize crcL L = C at *
    have z1 : (strOf (fourL L.length)).size = 4 := strOf_size _
    have z2 : (strOf (fourL C)).size = 4 := strOf_size _
    have z3 : (strOf (fourL L.length ++ fourL C)).size = 8 := strOf_size _
    go_enter Try.func30, Try.ntmps30
    go_wp2_with (go_at_call 51; refine (H18.out _ HX0.out.below).mono ?_; rintro e w1 ⟨rfl, hb1⟩; rw [HR.out]; have HX1 := hid (HX0.out.next hb1); obtain ⟨c10, c11, c12, c13, c14, c15⟩ := six HX1.out; clear hb1)
    go_wp2_with (go_at_call 52; refine (H31.out _ HX1.out.below).mono ?_; rintro e w2 ⟨rfl, hb2⟩; have HX2 := hid (HX1.out.next hb2); clear hb2)
    refine (H32a.out _).mono ?_
    rintro e w3 ⟨rfl, hb3⟩
    have HX3 := hid (HX2.out.next hb3)
    clear hb3
    go_wp2_with (go_at_call 54; refine (H14.out _).mono ?_; rintro e w4 ⟨rfl, rfl⟩)
    refine (H32b.out _).mono ?_
    rintro e w5 ⟨rfl, hb5⟩
    have HX5 := hid (HX3.out.next hb5)
    clear hb5
    go_wp2
    go_ret2
    exact ⟨by rw [HF.out, List.append_assoc]; rfl, HX5.out.below⟩
  · have HF : Hid (batchL b = ([], rightL b)) := by show _ = _; unfold batchL; rw [if_neg hR]
    have hne : (rightL b != 0) = true := by simp [hR]
    have hne2 : (rightL b == 0) = false := by simp [hR]
    clear hR hr
    go_enter Try.func30, Try.ntmps30
    go_wp2_with (go_at_call 51; refine (H18.out _ HX0.out.below).mono ?_; rintro e w1 ⟨rfl, hb1⟩)
    go_ret2
    exact ⟨by rw [HF.out]; rfl, (HX0.out.next hb1).below⟩
end Go.Proofs.Ytlgaianlkbaedaa

/- The reader: what is left of some bytes, in memory; spoil, number, count. -/
namespace Go.Proofs.Ytlgaianlkbaedaa
open Go.RowKit Go.Maps
set_option linter.unusedSimpArgs false
set_option linter.unusedVariables false
set_option maxRecDepth 100000

/-- A reader in block q. -/
structure Rd (w : World) (q : Nat) (s : RS) : Prop where
  box : w.heap[q]? = some (.cells #[.string (strOf s.rest), .bool s.wrong] 121)
  len : s.rest.length ≤ maxLen
theorem Rd.c0 {w : World} {q : Nat} {s : RS} (h : Rd w q s) : w.cell? ⟨q, 0, none⟩ = some (.string (strOf s.rest)) := cell_blk h.box 0 _ rfl
theorem Rd.c1 {w : World} {q : Nat} {s : RS} (h : Rd w q s) : w.cell? ⟨q, 1, none⟩ = some (.bool s.wrong) := cell_blk h.box 1 _ rfl
theorem frozen_blk {w : World} {q : Nat} {cs : Array Value} {T : TypeId} (h : w.heap[q]? = some (.cells cs T)) (j : Nat) : w.frozen? ⟨q, j, none⟩ = false := by
  simp [World.frozen?, h]
theorem Rd.f {w : World} {q : Nat} {s : RS} (h : Rd w q s) (j : Nat) : w.frozen? ⟨q, j, none⟩ = false := frozen_blk h.box j
theorem Rd.lt {w : World} {q : Nat} {s : RS} (h : Rd w q s) : q < w.heap.size := by
  rcases Nat.lt_or_ge q w.heap.size with h1 | h1
  · exact h1
  · have := h.box; rw [Array.getElem?_eq_none h1] at this; cases this
theorem Rd.set0 {w : World} {q : Nat} {s : RS} (h : Rd w q s) (l : List UInt8) (hl : l.length ≤ maxLen) : Rd (w.setCell ⟨q, 0, none⟩ (.string (strOf l))) q ⟨l, s.wrong⟩ := by
  refine ⟨?_, hl⟩
  rw [setCell_eq_setRow w q 0 _ 121 (0, 0) _ h.box, setRow_heap w q _ _ 121 (0, 0) h.box]
  rfl
theorem Rd.spoil {w : World} {q : Nat} {s : RS} (h : Rd w q s) : Rd ((w.setCell ⟨q, 0, none⟩ (.string ⟨#[]⟩)).setCell ⟨q, 1, none⟩ (.bool true)) q spoiled := by
  have h1 := h.set0 [] (by simp)
  refine ⟨?_, by simp [spoiled]⟩
  have h1b := h1.box
  have e : (Value.string (strOf [])) = .string ⟨#[]⟩ := rfl
  rw [e] at h1b
  rw [setCell_eq_setRow _ q 1 _ 121 (0, 0) _ h1b, setRow_heap _ q _ _ 121 (0, 0) h1b]
  rfl
theorem Rd.kept {w w' : World} {q : Nat} {s : RS} (h : Rd w q s) (hb : w'.heap[q]? = w.heap[q]?) : Rd w' q s := ⟨hb.trans h.box, h.len⟩

set_option maxHeartbeats 400000 in
theorem spoil_any {w : World} {q : Nat} {s : RS} (h : Rd w q s) : Calls Try.prog 94 #[.pointer (some ⟨q, 0, none⟩)] w fun e w' => e = .returned (.tuple #[]) ∧ Rd w' q spoiled ∧ w.grownBy w' (some q) := by
  have c0 := h.c0
  have c1 := h.c1
  have f0 := h.f 0
  have f1 := h.f 1
  have HF : Hid (Rd ((w.setCell ⟨q, 0, none⟩ (.string ⟨#[]⟩)).setCell ⟨q, 1, none⟩ (.bool true)) q spoiled ∧ w.grownBy ((w.setCell ⟨q, 0, none⟩ (.string ⟨#[]⟩)).setCell ⟨q, 1, none⟩ (.bool true)) (some q)) :=
    ⟨h.spoil, (Lib.grownBy_setCell w q 0 _).trans (Lib.grownBy_setCell _ q 1 _)⟩
  clear h
  go_enter Try.func94, Try.ntmps94
  go_wp2
  go_end0
  exact ⟨rfl, HF.out⟩

theorem extract_drop (l : List UInt8) (k : Nat) : (strOf l).extract k l.length = strOf (l.drop k) := by
  rw [Lib.extract_eq, strOf_data, List.take_of_length_le (by simp)]
  rfl
theorem extract_take (l : List UInt8) (k : Nat) : (strOf l).extract 0 k = strOf (l.take k) := by
  rw [Lib.extract_eq, strOf_data]
  simp [strOf]

set_option maxHeartbeats 800000 in
theorem number_any {w : World} {q : Nat} {s : RS} (h : Rd w q s) : Calls Try.prog 93 #[.pointer (some ⟨q, 0, none⟩)] w fun e w' => e = .returned (.int .i64 (numS s).1) ∧ Rd w' q (numS s).2 ∧ w.grownBy w' (some q) := by
  have c0 := h.c0
  have f0 := h.f 0
  have H10 := hid (readInt_any (strOf s.rest) w (by rw [strOf_size]; exact h.len))
  rw [strOf_data] at H10
  have HS := hid (spoil_any h)
  have hlen := h.len
  unfold maxLen at hlen
  have hrg := readL_range s.rest
  have HH := hid h
  have HN : Hid (numS s = if (readL s.rest).2.2 = 0 then ((readL s.rest).1, ⟨s.rest.drop (readL s.rest).2.1, s.wrong⟩) else (0, spoiled)) := rfl
  clear h
  have hsz := strOf_size s.rest
  generalize readL s.rest = R at *
  obtain ⟨n, k, e⟩ := R
  simp only at *
  obtain ⟨hn, hk, _⟩ := hrg
  by_cases he : e = 0
  · subst he
    have hx := extract_drop s.rest k
    have HF : Hid (numS s = (n, ⟨s.rest.drop k, s.wrong⟩)) := by show _ = _; rw [HN.out, if_pos rfl]
    have hk' : (k : Int) ≤ ((strOf s.rest).size : Int) := by rw [hsz]; omega
    have HD := hid (HH.out.set0 (s.rest.drop k) (by simp; unfold maxLen; omega))
    go_enter Try.func93, Try.ntmps93
    go_wp2_with (go_at_call 102; refine H10.out.mono ?_; rintro e w' ⟨rfl, rfl⟩)
    go_ret
    exact ⟨by rw [HF.out]; rfl, by rw [HF.out]; exact HD.out, Lib.grownBy_setCell _ q 0 _⟩
  · have hne : (e != 0) = true := by simp [he]
    have HF : Hid (numS s = (0, spoiled)) := by show _ = _; rw [HN.out, if_neg he]
    clear he
    go_enter Try.func93, Try.ntmps93
    go_wp2_with (first | (go_at_call 102; refine H10.out.mono ?_; rintro e w' ⟨rfl, rfl⟩) | (go_at_call 94; refine HS.out.mono ?_; rintro e w2 ⟨rfl, hr2, hg2⟩))
    go_ret
    exact ⟨by rw [HF.out]; rfl, by rw [HF.out]; exact hr2, hg2⟩

set_option maxHeartbeats 800000 in
theorem count_any {w : World} {q : Nat} {s : RS} (h : Rd w q s) (most : Int) (hm : 0 ≤ most) : Calls Try.prog 79 #[.pointer (some ⟨q, 0, none⟩), .int .i64 most] w fun e w' => e = .returned (.int .i64 (countS most s).1) ∧ Rd w' q (countS most s).2 ∧ w.grownBy w' (some q) := by
  have H54 := hid (number_any h)
  have HN : Hid (countS most s = if (numS s).1 < 0 ∨ most < (numS s).1 then (0, spoiled) else numS s) := rfl
  clear h
  generalize numS s = N at *
  obtain ⟨n, s1⟩ := N
  simp only at *
  by_cases h1 : n < 0
  · have HF : Hid (countS most s = (0, spoiled)) := by show _ = _; rw [HN.out, if_pos (.inl h1)]
    go_enter Try.func79, Try.ntmps79
    go_wp2_with (go_at_call 93; refine H54.out.mono ?_; rintro e w1 ⟨rfl, hr1, hg1⟩)
    refine (spoil_any hr1).mono ?_
    rintro e w2 ⟨rfl, hr2, hg2⟩
    go_wp2
    go_ret
    exact ⟨by rw [HF.out]; rfl, by rw [HF.out]; exact hr2, hg1.trans hg2⟩
  · by_cases h2 : most < n
    · have HF : Hid (countS most s = (0, spoiled)) := by show _ = _; rw [HN.out, if_pos (.inr h2)]
      go_enter Try.func79, Try.ntmps79
      go_wp2_with (go_at_call 93; refine H54.out.mono ?_; rintro e w1 ⟨rfl, hr1, hg1⟩)
      refine (spoil_any hr1).mono ?_
      rintro e w2 ⟨rfl, hr2, hg2⟩
      go_wp2
      go_ret
      exact ⟨by rw [HF.out]; rfl, by rw [HF.out]; exact hr2, hg1.trans hg2⟩
    · have HF : Hid (countS most s = (n, s1)) := by show _ = _; rw [HN.out, if_neg (by omega)]
      go_enter Try.func79, Try.ntmps79
      go_wp2_with (go_at_call 93; refine H54.out.mono ?_; rintro e w1 ⟨rfl, hr1, hg1⟩)
      go_ret
      exact ⟨by rw [HF.out]; rfl, by rw [HF.out]; exact hr1, hg1⟩
end Go.Proofs.Ytlgaianlkbaedaa

/- The reader's text, record, done, five. -/
namespace Go.Proofs.Ytlgaianlkbaedaa
open Go.RowKit Go.Maps
set_option linter.unusedSimpArgs false
set_option linter.unusedVariables false
set_option maxRecDepth 100000

def cloneRen : Go.Shelf.Ren := ⟨fun | 25 => 106 | n => n, fun | 37 => 75 | 47 => 149 | n => n, fun | n => n⟩
theorem cloneLaid : Go.Proofs.LaysPu.n25 Try.prog cloneRen := {
  mixed := by kernel_rfl
  f25 := Try.func106.trans (congrArg some (by kernel_rfl))
  t0 := by kernel_rfl
  a0 := fun w => by kernel_rfl
  z0 := fun w => by kernel_rfl
  v0 := fun w => by kernel_rfl
  i0 := by kernel_rfl
  t3 := Try.underlying3
  a3 := fun w => by kernel_rfl
  z3 := fun w => by kernel_rfl
  v3 := fun w => by kernel_rfl
  i3 := by kernel_rfl
  t4 := Try.underlying4
  a4 := fun w => by kernel_rfl
  z4 := fun w => by kernel_rfl
  v4 := fun w => by kernel_rfl
  i4 := by kernel_rfl
  t5 := Try.underlying5
  a5 := fun w => by kernel_rfl
  z5 := fun w => by kernel_rfl
  v5 := fun w => by kernel_rfl
  i5 := by kernel_rfl
  t9 := Try.underlying9
  a9 := fun w => by kernel_rfl
  z9 := fun w => by kernel_rfl
  v9 := fun w => by kernel_rfl
  i9 := by kernel_rfl
  t37 := Try.underlying75
  a37 := fun w => by kernel_rfl
  z37 := fun w => by kernel_rfl
  v37 := fun w => by kernel_rfl
  i37 := by kernel_rfl
  t47 := by kernel_rfl
  a47 := fun w => by kernel_rfl
  z47 := fun w => by kernel_rfl
  v47 := fun w => by kernel_rfl
  i47 := by kernel_rfl }

theorem clone57 (s : ByteArray) (w : World) (h : s.size ≤ 281474976710656) : Calls Try.prog 106 #[.string s] w fun e w' => e = .returned (.string s) ∧ Below w.heap.size w w' :=
  AnyPu.stringslite_Clone cloneLaid s w h

set_option maxHeartbeats 400000 in
theorem clone_any (s : ByteArray) (w : World) (h : s.size ≤ 281474976710656) : Calls Try.prog 103 #[.string s] w fun e w' => e = .returned (.string s) ∧ Below w.heap.size w w' := by
  have H57 := hid (clone57 s w h)
  go_enter Try.func103, Try.ntmps103
  go_wp2_with (go_at_call 106; refine H57.out.mono ?_; rintro e w1 ⟨rfl, hb1⟩)
  go_ret
  exact ⟨rfl, hb1⟩

theorem countS_range (most : Int) (s : RS) (hm : 0 ≤ most) : 0 ≤ (countS most s).1 ∧ (countS most s).1 ≤ most := by
  unfold countS
  split
  · simp [hm]
  · omega
theorem grown_below {w w' : World} {q : Nat} (hb : Below w.heap.size w w') : w.grownBy w' (some q) := ⟨hb.os, hb.tape, hb.output, hb.size, fun k hk _ => hb.block k hk⟩

set_option maxHeartbeats 1600000 in
theorem text_any {w : World} {q : Nat} {s : RS} (h : Rd w q s) (most : Int) (hm : 0 ≤ most) (hm2 : most ≤ 1000) : Calls Try.prog 95 #[.pointer (some ⟨q, 0, none⟩), .int .i64 most] w fun e w' => e = .returned (.string (strOf (textS most s).1)) ∧ Rd w' q (textS most s).2 ∧ w.grownBy w' (some q) := by
  have H50 := hid (count_any h most hm)
  have HN : Hid (textS most s = if ((countS most s).2.rest.length : Int) < (countS most s).1 then ([], spoiled) else ((countS most s).2.rest.take (countS most s).1.toNat, ⟨(countS most s).2.rest.drop (countS most s).1.toNat, (countS most s).2.wrong⟩)) := rfl
  have hrg := countS_range most s hm
  clear h
  generalize countS most s = N at *
  obtain ⟨n0, s1⟩ := N
  simp only at *
  obtain ⟨n, rfl⟩ := Int.eq_ofNat_of_zero_le hrg.1
  obtain ⟨_, hn⟩ := hrg
  have hsz := strOf_size s1.rest
  by_cases h1 : s1.rest.length < n
  · have h1' : ((strOf s1.rest).size : Int) < (n : Int) := by rw [hsz]; omega
    have h1'' : (s1.rest.length : Int) < (n : Int) := by omega
    have HF : Hid (textS most s = ([], spoiled)) := by show _ = _; rw [HN.out, if_pos (by omega)]
    go_enter Try.func95, Try.ntmps95
    go_wp2_with (go_at_call 79; refine H50.out.mono ?_; rintro e w1 ⟨rfl, hr1, hg1⟩; have d0 := hr1.c0)
    refine (spoil_any hr1).mono ?_
    rintro e w2 ⟨rfl, hr2, hg2⟩
    go_wp2
    go_ret
    exact ⟨by rw [HF.out]; rfl, by rw [HF.out]; exact hr2, hg1.trans hg2⟩
  · have h1'' : ¬ (s1.rest.length : Int) < (n : Int) := by omega
    have HF : Hid (textS most s = (s1.rest.take n, ⟨s1.rest.drop n, s1.wrong⟩)) := by show _ = _; rw [HN.out, if_neg (by omega)]; simp
    have hx1 := extract_drop s1.rest n
    have hx2 := extract_take s1.rest n
    go_enter Try.func95, Try.ntmps95
    go_wp2_with (go_at_call 79; refine H50.out.mono ?_; rintro e w1 ⟨rfl, hr1, hg1⟩; have d0 := hr1.c0; have hl1 := hr1.len; unfold maxLen at hl1)
    refine (clone_any _ _ (by rw [strOf_size]; simp; omega)).mono ?_
    rintro e w2 ⟨rfl, hb2⟩
    have hr2 := hr1.kept (hb2.block q hr1.lt)
    have e0 := hr2.c0
    have f0 := hr2.f 0
    have HD := hid (hr2.set0 (s1.rest.drop n) (by simp; unfold maxLen; omega))
    have hg2 := hid ((hg1.trans (grown_below hb2)).trans (Lib.grownBy_setCell w2 q 0 (.string (strOf (s1.rest.drop n)))))
    clear hb2 hr1 d0
    go_wp2
    go_ret
    exact ⟨by rw [HF.out]; rfl, by rw [HF.out]; exact HD.out, hg2.out⟩

theorem grown_box {w w3 : World} {O : Obj} {q : Nat} (hg : (w.alloc O).grownBy w3 (some q)) (hq : q < w.heap.size) : w3.heap[w.heap.size]? = some O :=
  (hg.block w.heap.size (by simp) (fun e => by cases e; omega)).trans (heap_alloc_new w O)
theorem Rd.set {w : World} {q : Nat} {s : RS} (h : Rd w q s) (b j : Nat) (v : Value) (hb : q ≠ b) : Rd (w.setCell ⟨b, j, none⟩ v) q s := h.kept (Below.heap_setCell w ⟨b, j, none⟩ v q hb)
theorem grown_set {w w3 : World} {q : Nat} (hg : w.grownBy w3 (some q)) (b j : Nat) (v : Value) (hb : w.heap.size ≤ b) : w.grownBy (w3.setCell ⟨b, j, none⟩ v) (some q) :=
  hg.andThen (Lib.grownBy_setCell w3 b j v) (fun k hk => by cases hk; exact .inl hb)

set_option maxHeartbeats 800000 in
theorem record_any {w : World} {q : Nat} {s : RS} (h : Rd w q s) : Calls Try.prog 80 #[.pointer (some ⟨q, 0, none⟩)] w fun e w' => e = .returned (.agg #[.string (strOf (recS s).1.key), .string (strOf (recS s).1.val), .int .i64 (recS s).1.time]) ∧ Rd w' q (recS s).2 ∧ w.grownBy w' (some q) := by
  have hlt := h.lt
  have HR : Hid (∀ O, Rd (w.alloc O) q s) := fun O => h.kept (Below.heap_alloc w O q hlt)
  have HN : Hid (recS s = (⟨(textS 1000 (numS s).2).1, (textS 1000 (textS 1000 (numS s).2).2).1, (numS s).1⟩, (textS 1000 (textS 1000 (numS s).2).2).2)) := rfl
  clear h
  have G54 : Hid (∀ W, Rd W q s → Calls Try.prog 93 #[.pointer (some ⟨q, 0, none⟩)] W fun e w' => e = .returned (.int .i64 (numS s).1) ∧ Rd w' q (numS s).2 ∧ W.grownBy w' (some q)) := fun W h => number_any h
  generalize numS s = N at *
  obtain ⟨t, s1⟩ := N
  simp only at *
  have G53a : Hid (∀ W, Rd W q s1 → Calls Try.prog 95 #[.pointer (some ⟨q, 0, none⟩), .int .i64 1000] W fun e w' => e = .returned (.string (strOf (textS 1000 s1).1)) ∧ Rd w' q (textS 1000 s1).2 ∧ W.grownBy w' (some q)) := fun W h => text_any h 1000 (by omega) (by omega)
  generalize textS 1000 s1 = N at *
  obtain ⟨ky, s2⟩ := N
  simp only at *
  have G53b : Hid (∀ W, Rd W q s2 → Calls Try.prog 95 #[.pointer (some ⟨q, 0, none⟩), .int .i64 1000] W fun e w' => e = .returned (.string (strOf (textS 1000 s2).1)) ∧ Rd w' q (textS 1000 s2).2 ∧ W.grownBy w' (some q)) := fun W h => text_any h 1000 (by omega) (by omega)
  generalize textS 1000 s2 = N at *
  obtain ⟨vl, s3⟩ := N
  simp only at *
  go_enter Try.func80, Try.ntmps80
  go_wp2_with (go_at_call 93; refine (G54.out _ (HR.out _)).mono ?_; rintro e w1 ⟨rfl, hr1, hg1⟩)
  refine (G53a.out _ hr1).mono ?_
  rintro e w2 ⟨rfl, hr2, hg2⟩
  go_wp2_with fail
  refine (G53b.out _ hr2).mono ?_
  rintro e w3 ⟨rfl, hr3, hg3⟩
  have hg := (hg1.trans hg2).trans hg3
  have hbx := grown_box hg hlt
  have d0 := cell_blk hbx 0 (.string ⟨#[]⟩) rfl
  have d1 := cell_blk hbx 1 (.string ⟨#[]⟩) rfl
  have d2 := cell_blk hbx 2 (.int .i64 0) rfl
  have f0 := frozen_blk hbx 0
  have f1 := frozen_blk hbx 1
  have f2 := frozen_blk hbx 2
  have hsz : w.heap.size < w3.heap.size := by have := hg.size; simp at this; omega
  have HR3 := hid hr3
  have HG := hid ((World.grownBy_alloc w _ (some q)).trans hg)
  clear hbx hg hg1 hg2 hg3 hr1 hr2 hr3
  go_wp2
  refine bodyPost_ret (v := .agg #[.string (strOf ky), .string (strOf vl), .int .i64 t]) (by simp [results, Try.results80, go_sem, d0, d1, d2]) rfl ⟨by rw [HN.out], ?_, ?_⟩
  · rw [HN.out]
    exact ((HR3.out.set _ _ _ (by omega)).set _ _ _ (by omega)).set _ _ _ (by omega)
  · exact grown_set (grown_set (grown_set HG.out _ _ _ (Nat.le_refl _)) _ _ _ (Nat.le_refl _)) _ _ _ (Nat.le_refl _)

set_option maxHeartbeats 400000 in
theorem done_any {w : World} {q : Nat} {s : RS} (h : Rd w q s) : Calls Try.prog 81 #[.pointer (some ⟨q, 0, none⟩)] w fun e w' => e = .returned (.bool (doneS s)) ∧ w = w' := by
  have c0 := h.c0
  have c1 := h.c1
  have HN : Hid (doneS s = (!s.wrong && s.rest.isEmpty)) := rfl
  clear h
  obtain ⟨l, wr⟩ := s
  simp only at *
  cases wr with
  | true =>
    go_enter Try.func81, Try.ntmps81
    go_wp2
    go_ret
    exact ⟨ret_bool (by rw [HN.out]; rfl), rfl⟩
  | false =>
    go_enter Try.func81, Try.ntmps81
    go_wp2
    go_ret
    exact ⟨ret_bool (by rw [HN.out, Lib.toList_data, strOf_data]; rfl), rfl⟩
end Go.Proofs.Ytlgaianlkbaedaa

