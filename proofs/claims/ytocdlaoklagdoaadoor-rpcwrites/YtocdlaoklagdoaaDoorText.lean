/- The reader's text, record, done, five. -/
import Derived.Test.YtocdlaoklagdoaaDoorReader
import Derived.Shelf.Pu.Clone
namespace Go.Proofs.YtocdlaoklagdoaaDoor
open Go.RowKit Go.Maps
set_option linter.unusedSimpArgs false
set_option linter.unusedVariables false
set_option maxRecDepth 100000

def cloneRen : Go.Shelf.Ren := ⟨fun | 25 => 90 | n => n, fun | 37 => 43 | 47 => 114 | n => n, fun | n => n⟩
theorem cloneLaid : Go.Proofs.LaysPu.n25 Tryd.prog cloneRen := {
  mixed := by kernel_rfl
  f25 := Tryd.func90.trans (congrArg some (by kernel_rfl))
  t0 := by kernel_rfl
  a0 := fun w => by kernel_rfl
  z0 := fun w => by kernel_rfl
  v0 := fun w => by kernel_rfl
  i0 := by kernel_rfl
  t3 := Tryd.underlying3
  a3 := fun w => by kernel_rfl
  z3 := fun w => by kernel_rfl
  v3 := fun w => by kernel_rfl
  i3 := by kernel_rfl
  t4 := Tryd.underlying4
  a4 := fun w => by kernel_rfl
  z4 := fun w => by kernel_rfl
  v4 := fun w => by kernel_rfl
  i4 := by kernel_rfl
  t5 := Tryd.underlying5
  a5 := fun w => by kernel_rfl
  z5 := fun w => by kernel_rfl
  v5 := fun w => by kernel_rfl
  i5 := by kernel_rfl
  t9 := Tryd.underlying9
  a9 := fun w => by kernel_rfl
  z9 := fun w => by kernel_rfl
  v9 := fun w => by kernel_rfl
  i9 := by kernel_rfl
  t37 := Tryd.underlying43
  a37 := fun w => by kernel_rfl
  z37 := fun w => by kernel_rfl
  v37 := fun w => by kernel_rfl
  i37 := by kernel_rfl
  t47 := by kernel_rfl
  a47 := fun w => by kernel_rfl
  z47 := fun w => by kernel_rfl
  v47 := fun w => by kernel_rfl
  i47 := by kernel_rfl }

theorem clone57 (s : ByteArray) (w : World) (h : s.size ≤ 281474976710656) : Calls Tryd.prog 90 #[.string s] w fun e w' => e = .returned (.string s) ∧ Below w.heap.size w w' :=
  AnyPu.stringslite_Clone cloneLaid s w h

set_option maxHeartbeats 400000 in
theorem clone_any (s : ByteArray) (w : World) (h : s.size ≤ 281474976710656) : Calls Tryd.prog 81 #[.string s] w fun e w' => e = .returned (.string s) ∧ Below w.heap.size w w' := by
  have H57 := hid (clone57 s w h)
  go_enter Tryd.func81, Tryd.ntmps81
  go_wp2_with (go_at_call 90; refine H57.out.mono ?_; rintro e w1 ⟨rfl, hb1⟩)
  go_ret
  exact ⟨rfl, hb1⟩

theorem countS_range (most : Int) (s : RS) (hm : 0 ≤ most) : 0 ≤ (countS most s).1 ∧ (countS most s).1 ≤ most := by
  unfold countS
  split
  · simp [hm]
  · omega
theorem grown_below {w w' : World} {q : Nat} (hb : Below w.heap.size w w') : w.grownBy w' (some q) := ⟨hb.os, hb.tape, hb.output, hb.size, fun k hk _ => hb.block k hk⟩

set_option maxHeartbeats 1600000 in
theorem text_any {w : World} {q : Nat} {s : RS} (h : Rd w q s) (most : Int) (hm : 0 ≤ most) (hm2 : most ≤ 1000) : Calls Tryd.prog 101 #[.pointer (some ⟨q, 0, none⟩), .int .i64 most] w fun e w' => e = .returned (.string (strOf (textS most s).1)) ∧ Rd w' q (textS most s).2 ∧ w.grownBy w' (some q) := by
  have H50 := hid (count_any h most hm)
  have HN : Hid (textS most s = if ((countS most s).2.rest.length : Int) < (countS most s).1 then ([], spoiled) else ((countS most s).2.rest.take (countS most s).1.toNat, ⟨(countS most s).2.rest.drop (countS most s).1.toNat, (countS most s).2.wrong⟩)) := rfl
  have hrg := countS_range most s hm
  clear h
  generalize countS most s = N at *
  obtain ⟨n0, s1⟩ := N
  simp only at *
  obtain ⟨n, rfl⟩ := Int.eq_ofNat_of_zero_le hrg.1
  obtain ⟨_, hn⟩ := hrg
  have hsz := strOf_size s1.rest
  by_cases h1 : s1.rest.length < n
  · have h1' : ((strOf s1.rest).size : Int) < (n : Int) := by rw [hsz]; omega
    have h1'' : (s1.rest.length : Int) < (n : Int) := by omega
    have HF : Hid (textS most s = ([], spoiled)) := by show _ = _; rw [HN.out, if_pos (by omega)]
    go_enter Tryd.func101, Tryd.ntmps101
    go_wp2_with (go_at_call 96; refine H50.out.mono ?_; rintro e w1 ⟨rfl, hr1, hg1⟩; have d0 := hr1.c0)
    refine (spoil_any hr1).mono ?_
    rintro e w2 ⟨rfl, hr2, hg2⟩
    go_wp2
    go_ret
    exact ⟨by rw [HF.out]; rfl, by rw [HF.out]; exact hr2, hg1.trans hg2⟩
  · have h1'' : ¬ (s1.rest.length : Int) < (n : Int) := by omega
    have HF : Hid (textS most s = (s1.rest.take n, ⟨s1.rest.drop n, s1.wrong⟩)) := by show _ = _; rw [HN.out, if_neg (by omega)]; simp
    have hx1 := extract_drop s1.rest n
    have hx2 := extract_take s1.rest n
    go_enter Tryd.func101, Tryd.ntmps101
    go_wp2_with (go_at_call 96; refine H50.out.mono ?_; rintro e w1 ⟨rfl, hr1, hg1⟩; have d0 := hr1.c0; have hl1 := hr1.len; unfold maxLen at hl1)
    refine (clone_any _ _ (by rw [strOf_size]; simp; omega)).mono ?_
    rintro e w2 ⟨rfl, hb2⟩
    have hr2 := hr1.kept (hb2.block q hr1.lt)
    have e0 := hr2.c0
    have f0 := hr2.f 0
    have HD := hid (hr2.set0 (s1.rest.drop n) (by simp; unfold maxLen; omega))
    have hg2 := hid ((hg1.trans (grown_below hb2)).trans (Lib.grownBy_setCell w2 q 0 (.string (strOf (s1.rest.drop n)))))
    clear hb2 hr1 d0
    go_wp2
    go_ret
    exact ⟨by rw [HF.out]; rfl, by rw [HF.out]; exact HD.out, hg2.out⟩

theorem grown_box {w w3 : World} {O : Obj} {q : Nat} (hg : (w.alloc O).grownBy w3 (some q)) (hq : q < w.heap.size) : w3.heap[w.heap.size]? = some O :=
  (hg.block w.heap.size (by simp) (fun e => by cases e; omega)).trans (heap_alloc_new w O)
theorem Rd.set {w : World} {q : Nat} {s : RS} (h : Rd w q s) (b j : Nat) (v : Value) (hb : q ≠ b) : Rd (w.setCell ⟨b, j, none⟩ v) q s := h.kept (Below.heap_setCell w ⟨b, j, none⟩ v q hb)
theorem grown_set {w w3 : World} {q : Nat} (hg : w.grownBy w3 (some q)) (b j : Nat) (v : Value) (hb : w.heap.size ≤ b) : w.grownBy (w3.setCell ⟨b, j, none⟩ v) (some q) :=
  hg.andThen (Lib.grownBy_setCell w3 b j v) (fun k hk => by cases hk; exact .inl hb)

set_option maxHeartbeats 800000 in
theorem record_any {w : World} {q : Nat} {s : RS} (h : Rd w q s) : Calls Tryd.prog 97 #[.pointer (some ⟨q, 0, none⟩)] w fun e w' => e = .returned (.agg #[.string (strOf (recS s).1.key), .string (strOf (recS s).1.val), .int .i64 (recS s).1.time]) ∧ Rd w' q (recS s).2 ∧ w.grownBy w' (some q) := by
  have hlt := h.lt
  have HR : Hid (∀ O, Rd (w.alloc O) q s) := fun O => h.kept (Below.heap_alloc w O q hlt)
  have HN : Hid (recS s = (⟨(textS 1000 (numS s).2).1, (textS 1000 (textS 1000 (numS s).2).2).1, (numS s).1⟩, (textS 1000 (textS 1000 (numS s).2).2).2)) := rfl
  clear h
  have G54 : Hid (∀ W, Rd W q s → Calls Tryd.prog 99 #[.pointer (some ⟨q, 0, none⟩)] W fun e w' => e = .returned (.int .i64 (numS s).1) ∧ Rd w' q (numS s).2 ∧ W.grownBy w' (some q)) := fun W h => number_any h
  generalize numS s = N at *
  obtain ⟨t, s1⟩ := N
  simp only at *
  have G53a : Hid (∀ W, Rd W q s1 → Calls Tryd.prog 101 #[.pointer (some ⟨q, 0, none⟩), .int .i64 1000] W fun e w' => e = .returned (.string (strOf (textS 1000 s1).1)) ∧ Rd w' q (textS 1000 s1).2 ∧ W.grownBy w' (some q)) := fun W h => text_any h 1000 (by omega) (by omega)
  generalize textS 1000 s1 = N at *
  obtain ⟨ky, s2⟩ := N
  simp only at *
  have G53b : Hid (∀ W, Rd W q s2 → Calls Tryd.prog 101 #[.pointer (some ⟨q, 0, none⟩), .int .i64 1000] W fun e w' => e = .returned (.string (strOf (textS 1000 s2).1)) ∧ Rd w' q (textS 1000 s2).2 ∧ W.grownBy w' (some q)) := fun W h => text_any h 1000 (by omega) (by omega)
  generalize textS 1000 s2 = N at *
  obtain ⟨vl, s3⟩ := N
  simp only at *
  go_enter Tryd.func97, Tryd.ntmps97
  go_wp2_with (go_at_call 99; refine (G54.out _ (HR.out _)).mono ?_; rintro e w1 ⟨rfl, hr1, hg1⟩)
  refine (G53a.out _ hr1).mono ?_
  rintro e w2 ⟨rfl, hr2, hg2⟩
  go_wp2_with fail
  refine (G53b.out _ hr2).mono ?_
  rintro e w3 ⟨rfl, hr3, hg3⟩
  have hg := (hg1.trans hg2).trans hg3
  have hbx := grown_box hg hlt
  have d0 := cell_blk hbx 0 (.string ⟨#[]⟩) rfl
  have d1 := cell_blk hbx 1 (.string ⟨#[]⟩) rfl
  have d2 := cell_blk hbx 2 (.int .i64 0) rfl
  have f0 := frozen_blk hbx 0
  have f1 := frozen_blk hbx 1
  have f2 := frozen_blk hbx 2
  have hsz : w.heap.size < w3.heap.size := by have := hg.size; simp at this; omega
  have HR3 := hid hr3
  have HG := hid ((World.grownBy_alloc w _ (some q)).trans hg)
  clear hbx hg hg1 hg2 hg3 hr1 hr2 hr3
  go_wp2
  refine bodyPost_ret (v := .agg #[.string (strOf ky), .string (strOf vl), .int .i64 t]) (by simp [results, Tryd.results97, go_sem, d0, d1, d2]) rfl ⟨by rw [HN.out], ?_, ?_⟩
  · rw [HN.out]
    exact ((HR3.out.set _ _ _ (by omega)).set _ _ _ (by omega)).set _ _ _ (by omega)
  · exact grown_set (grown_set (grown_set HG.out _ _ _ (Nat.le_refl _)) _ _ _ (Nat.le_refl _)) _ _ _ (Nat.le_refl _)

set_option maxHeartbeats 400000 in
theorem done_any {w : World} {q : Nat} {s : RS} (h : Rd w q s) : Calls Tryd.prog 98 #[.pointer (some ⟨q, 0, none⟩)] w fun e w' => e = .returned (.bool (doneS s)) ∧ w = w' := by
  have c0 := h.c0
  have c1 := h.c1
  have HN : Hid (doneS s = (!s.wrong && s.rest.isEmpty)) := rfl
  clear h
  obtain ⟨l, wr⟩ := s
  simp only at *
  cases wr with
  | true =>
    go_enter Tryd.func98, Tryd.ntmps98
    go_wp2
    go_ret
    exact ⟨ret_bool (by rw [HN.out]; rfl), rfl⟩
  | false =>
    go_enter Tryd.func98, Tryd.ntmps98
    go_wp2
    go_ret
    exact ⟨ret_bool (by rw [HN.out, Lib.toList_data, strOf_data]; rfl), rfl⟩
end Go.Proofs.YtocdlaoklagdoaaDoor
