/- The document's ReadBatch. -/
import Derived.Test.YtocdlaoklagdoaaDoorRfmem
import Derived.Test.YtocdlaoklagdoaaDoorRefright
import Derived.Test.YtocdlaoklagdoaaDoorG1
namespace Go.Proofs.YtocdlaoklagdoaaDoor
open Go.RowKit Go.Maps
set_option linter.unusedSimpArgs false
set_option linter.unusedVariables false
set_option maxRecDepth 100000

theorem readBatchL_R (l : List UInt8) (h8 : ¬ l.length < 8) : readBatchL l = if 4088 < fourN l then (zeroBat, 0, (2 : Int))
      else if l.length < 8 + fourN l then (zeroBat, 0, (5 : Int))
      else if crcL ((l.drop 8).take (fourN l)) ≠ fourN (l.drop 4) then (zeroBat, 0, (6 : Int))
      else match bodyRf ((l.drop 8).take (fourN l)) with
        | none => (zeroBat, 0, (4 : Int))
        | some b => (b, 8 + fourN l, (0 : Int)) := by
  unfold readBatchL
  rw [if_neg h8, bodyRf_eq]
  by_cases h1 : 4088 < fourN l
  · rw [if_pos h1, if_pos (by omega)]
  · rw [if_neg h1, if_neg (by omega)]
    by_cases h2 : l.length < 8 + fourN l
    · rw [if_pos h2, if_pos h2]
    · rw [if_neg h2, if_neg h2]
      by_cases h3 : crcL ((l.drop 8).take (fourN l)) ≠ fourN (l.drop 4)
      · rw [if_pos h3, if_pos (fun e => h3 e.symm)]
      · rw [if_neg h3, if_neg (fun e => h3 (fun e2 => e e2.symm))]
        by_cases h4 : (bodyS ((l.drop 8).take (fourN l))).2 = false ∨ rightL (bodyS ((l.drop 8).take (fourN l))).1 ≠ 0
        · rw [if_pos h4, if_pos h4]
        · rw [if_neg h4, if_neg h4]

theorem bodyR_steps {m : List UInt8} {x1 x2 x3 x4 x5 x6 : Int} {s1 s2 s3 s4 s5 s6 : RS} (h1 : numS ⟨m, false⟩ = (x1, s1)) (h2 : numS s1 = (x2, s2)) (h3 : numS s2 = (x3, s3)) (h4 : numS s3 = (x4, s4)) (h5 : numS s4 = (x5, s5)) (h6 : numS s5 = (x6, s6)) :
    bodyRf m = if x6 < 1 ∨ 64 < x6 then none
      else if (recsR x6.toNat s6).2.wrong = true ∨ (recsR x6.toNat s6).2.rest ≠ [] ∨ rightL ⟨x1, x2, x3, x4, x5, (recsR x6.toNat s6).1⟩ ≠ 0 then none
      else some ⟨x1, x2, x3, x4, x5, (recsR x6.toNat s6).1⟩ := by
  have e : numsS 5 ⟨m, false⟩ = ([x1, x2, x3, x4, x5], s5) := by simp [numsS, h1, h2, h3, h4, h5]
  unfold bodyRf
  rw [e]
  simp only [h6]

set_option maxHeartbeats 3200000 in
theorem rreadBatch_any {w : World} (l : List UInt8) (hl : l.length ≤ maxLen) :
    Calls Tryd.prog 43 #[.string (strOf l)] w fun e w' => ∃ rv, e = .returned (.tuple #[.agg #[.int .i64 (readBatchL l).1.base, .int .i64 (readBatchL l).1.epoch, .int .i64 (readBatchL l).1.pid, .int .i64 (readBatchL l).1.pidEpoch, .int .i64 (readBatchL l).1.seq, rv], .int .i64 ((readBatchL l).2.1 : Nat), .int .i64 (readBatchL l).2.2]) ∧ Recs w' rv (readBatchL l).1.recs ∧ Below w.heap.size w w' ∧ ∀ k, rv.ownBlock = some k → w.heap.size ≤ k := by
  have hsz := strOf_size l
  have hlm := hl
  unfold maxLen at hlm
  by_cases h8 : l.length < 8
  · have h8' : (l.length : Int) < 8 := by omega
    have HF : Hid (readBatchL l = (zeroBat, 0, 5)) := by show _ = _; unfold readBatchL; rw [if_pos h8]
    go_enter Tryd.func43, Tryd.ntmps43
    go_wp2
    refine bodyPost_ret (v := .tuple #[.agg #[.int .i64 0, .int .i64 0, .int .i64 0, .int .i64 0, .int .i64 0, .slice none 0 0], .int .i64 0, .int .i64 5]) (by simp [results, Tryd.results43, go_sem]) rfl ⟨.slice none 0 0, by rw [HF.out]; rfl, by rw [HF.out]; exact recs_nil _, ?_, fun k hk => by cases hk⟩
    exact (Below.refl _ _).alloc (Nat.le_refl _) _
  have h8' : ¬ (l.length : Int) < 8 := by omega
  have hn := fourN_lt l
  have H40 := hid (fun W => rfourN_any (strOf l) W (by rw [hsz]; omega) (by rw [hsz]; exact hl))
  rw [strOf_data] at H40
  have HN := hid (readBatchL_R l h8)
  have hx4 := extract_drop l 4
  have hxm := extract_mid l 8 (fourN l)
  have hd4 : (l.drop 4).length = l.length - 4 := by simp
  have hN4 := fourN_lt (l.drop 4)
  have H40b := hid (fun W => rfourN_any (strOf (l.drop 4)) W (by rw [strOf_size, hd4]; omega) (by rw [strOf_size, hd4]; unfold maxLen; omega))
  rw [strOf_data] at H40b
  generalize fourN l = n at *
  by_cases hb : 4088 < n
  · have hb' : 4088 < (n : Int) := by omega
    have HF : Hid (readBatchL l = (zeroBat, 0, 2)) := by show _ = _; rw [HN.out, if_pos hb]
    clear hx4 hxm hd4 hN4
    go_enter Tryd.func43, Tryd.ntmps43
    go_wp2_with fail
    refine (H40.out _).mono ?_
    rintro e w1 ⟨rfl, hb1⟩
    have X1 := hid ((Boxed.laid w (.cells #[.int .i64 0, .int .i64 0, .int .i64 0, .int .i64 0, .int .i64 0, .slice none 0 0] 50)).next hb1)
    clear hb1
    obtain ⟨c0, c1, c2, c3, c4, c5⟩ := six X1.out
    obtain ⟨f0, f1, f2, f3, f4, f5⟩ := six_frozen X1.out
    go_wp2
    have Z := hid (X1.out.six (.int .i64 0) (.int .i64 0) (.int .i64 0) (.int .i64 0) (.int .i64 0) (.slice none 0 0))
    obtain ⟨e0, e1, e2, e3, e4, e5⟩ := six Z.out
    refine bodyPost_ret (v := .tuple #[.agg #[.int .i64 0, .int .i64 0, .int .i64 0, .int .i64 0, .int .i64 0, .slice none 0 0], .int .i64 0, .int .i64 2]) (by simp [results, Tryd.results43, go_sem, e0, e1, e2, e3, e4, e5]) rfl ⟨.slice none 0 0, by rw [HF.out]; rfl, by rw [HF.out]; exact recs_nil _, ?_, fun k hk => by cases hk⟩
    exact Z.out.below
  have hb' : ¬ 4088 < (n : Int) := by omega
  by_cases hs : l.length < 8 + n
  · have hs' : (l.length : Int) < 8 + (n : Int) := by omega
    have HF : Hid (readBatchL l = (zeroBat, 0, 5)) := by show _ = _; rw [HN.out, if_neg hb, if_pos hs]
    clear hx4 hxm hd4 hN4
    go_enter Tryd.func43, Tryd.ntmps43
    go_wp2_with fail
    refine (H40.out _).mono ?_
    rintro e w1 ⟨rfl, hb1⟩
    have X1 := hid ((Boxed.laid w (.cells #[.int .i64 0, .int .i64 0, .int .i64 0, .int .i64 0, .int .i64 0, .slice none 0 0] 50)).next hb1)
    clear hb1
    obtain ⟨c0, c1, c2, c3, c4, c5⟩ := six X1.out
    obtain ⟨f0, f1, f2, f3, f4, f5⟩ := six_frozen X1.out
    go_wp2
    have Z := hid (X1.out.six (.int .i64 0) (.int .i64 0) (.int .i64 0) (.int .i64 0) (.int .i64 0) (.slice none 0 0))
    obtain ⟨e0, e1, e2, e3, e4, e5⟩ := six Z.out
    refine bodyPost_ret (v := .tuple #[.agg #[.int .i64 0, .int .i64 0, .int .i64 0, .int .i64 0, .int .i64 0, .slice none 0 0], .int .i64 0, .int .i64 5]) (by simp [results, Tryd.results43, go_sem, e0, e1, e2, e3, e4, e5]) rfl ⟨.slice none 0 0, by rw [HF.out]; rfl, by rw [HF.out]; exact recs_nil _, ?_, fun k hk => by cases hk⟩
    exact Z.out.below
  have hs' : ¬ (l.length : Int) < 8 + (n : Int) := by omega
  have hml : ((l.drop 8).take n).length = n := by simp; omega
  rw [if_neg hb, if_neg hs] at HN
  generalize (l.drop 8).take n = m at *
  have H15 := hid (fun W => rcrc_any (strOf m) W (by rw [strOf_size, hml]; unfold maxLen; omega))
  rw [strOf_data] at H15
  have hC := crcL_lt m
  have hmm : m.length ≤ maxLen := by rw [hml]; unfold maxLen; omega
  generalize crcL m = C at *
  generalize fourN (l.drop 4) = S at *
  have i1 : (4 : Int) ≤ (l.length : Int) := by omega
  have i2 : (8 : Int) ≤ 8 + (n : Int) := by omega
  have i3 : 8 + (n : Int) ≤ (l.length : Int) := by omega
  by_cases hS : C ≠ S
  · have hS' : ((C : Int) != (S : Int)) = true := by simp; omega
    have HF : Hid (readBatchL l = (zeroBat, 0, 6)) := by show _ = _; rw [HN.out, if_pos hS]
    go_enter Tryd.func43, Tryd.ntmps43
    go_wp2_with fail
    refine (H40.out _).mono ?_
    rintro e w1 ⟨rfl, hb1⟩
    have X1 := hid ((Boxed.laid w (.cells #[.int .i64 0, .int .i64 0, .int .i64 0, .int .i64 0, .int .i64 0, .slice none 0 0] 50)).next hb1)
    clear hb1
    go_wp2
    go_region_held3 (fun w' => True) (trivial)
      (first
      | (go_at_call 14; refine (H15.out _).mono ?_; rintro e w5 ⟨rfl, rfl⟩)
      | (go_at_call 62; refine (H40b.out w1.drew).mono ?_; rintro e w2 ⟨rfl, hb2⟩; have X2 := hid ((X1.out.drewN 1).next hb2); clear hb2)
      | fail)
    all_goals
      obtain ⟨c0, c1, c2, c3, c4, c5⟩ := six X2.out
      obtain ⟨f0, f1, f2, f3, f4, f5⟩ := six_frozen X2.out
      go_wp2
      have Z := hid (X2.out.six (.int .i64 0) (.int .i64 0) (.int .i64 0) (.int .i64 0) (.int .i64 0) (.slice none 0 0))
      obtain ⟨e0, e1, e2, e3, e4, e5⟩ := six Z.out
      refine bodyPost_ret (v := .tuple #[.agg #[.int .i64 0, .int .i64 0, .int .i64 0, .int .i64 0, .int .i64 0, .slice none 0 0], .int .i64 0, .int .i64 6]) (by simp [results, Tryd.results43, go_sem, e0, e1, e2, e3, e4, e5]) rfl ⟨.slice none 0 0, by rw [HF.out]; rfl, by rw [HF.out]; exact recs_nil _, ?_, fun k hk => by cases hk⟩
      exact Z.out.below
  have hS' : ((C : Int) != (S : Int)) = false := by simp; omega
  have HN2 : Hid (readBatchL l = match bodyRf m with | none => (zeroBat, 0, (4 : Int)) | some b => (b, 8 + n, (0 : Int))) := by show _ = _; rw [HN.out, if_neg hS]
  clear hS HN
  obtain ⟨x1, s1, h1⟩ : ∃ x s, numS ⟨m, false⟩ = (x, s) := ⟨_, _, rfl⟩
  obtain ⟨x2, s2, h2⟩ : ∃ x s, numS s1 = (x, s) := ⟨_, _, rfl⟩
  obtain ⟨x3, s3, h3⟩ : ∃ x s, numS s2 = (x, s) := ⟨_, _, rfl⟩
  obtain ⟨x4, s4, h4⟩ : ∃ x s, numS s3 = (x, s) := ⟨_, _, rfl⟩
  obtain ⟨x5, s5, h5⟩ : ∃ x s, numS s4 = (x, s) := ⟨_, _, rfl⟩
  obtain ⟨x6, s6, h6⟩ : ∃ x s, numS s5 = (x, s) := ⟨_, _, rfl⟩
  have HBR := hid (bodyR_steps h1 h2 h3 h4 h5 h6)
  have HI : Hid (I64 x1 ∧ I64 x2 ∧ I64 x3 ∧ I64 x4 ∧ I64 x5) := ⟨by rw [← show (numS ⟨m, false⟩).1 = x1 by rw [h1]]; exact numS_i64 _, by rw [← show (numS s1).1 = x2 by rw [h2]]; exact numS_i64 _, by rw [← show (numS s2).1 = x3 by rw [h3]]; exact numS_i64 _, by rw [← show (numS s3).1 = x4 by rw [h4]]; exact numS_i64 _, by rw [← show (numS s4).1 = x5 by rw [h5]]; exact numS_i64 _⟩
  have H1 := hid h1
  have H2 := hid h2
  have H3 := hid h3
  have H4 := hid h4
  have H5 := hid h5
  have H6 := hid h6
  clear h1 h2 h3 h4 h5 h6
  have HMM := hid hmm
  go_enter Tryd.func43, Tryd.ntmps43
  go_wp2_with fail
  refine (H40.out _).mono ?_
  rintro e w1 ⟨rfl, hb1⟩
  have X1 := hid ((Boxed.laid w (.cells #[.int .i64 0, .int .i64 0, .int .i64 0, .int .i64 0, .int .i64 0, .slice none 0 0] 50)).next hb1)
  clear hb1
  go_wp2
  go_region_held3 (fun w' => True) (trivial)
    (first
    | (go_at_call 14; refine (H15.out _).mono ?_; rintro e w5 ⟨rfl, rfl⟩)
    | (go_at_call 62; refine (H40b.out w1.drew).mono ?_; rintro e w2 ⟨rfl, hb2⟩; have X2 := hid ((X1.out.drewN 1).next hb2); clear hb2)
    | fail)
  have B0 := hid (Rb.start X2.out (.cells #[.string (strOf m), .bool false] 59))
  have R0 := hid (Rf.start (W := w2) m HMM.out (.cells #[.int .i64 0, .int .i64 0, .int .i64 0, .int .i64 0, .int .i64 0, .slice none 0 0] 50))
  clear X1 X2
  go_wp2_with fail
  refine (rnumber_any (R0.out)).mono ?_
  rintro e w3 ⟨rfl, hr3, hg3⟩
  rw [H1.out] at hr3 ⊢
  have B3 := hid ((B0.out).grown hg3)
  have R3 := hid hr3
  clear hr3 hg3
  generalize w2.heap.size = p at *
  clear B0 R0
  obtain ⟨c0, c1, c2, c3, c4, c5⟩ := B3.out.cells
  have f1 := B3.out.free 0
  go_wp2_with fail
  refine (rnumber_any (R3.out.set (p + 1) 0 (.int .i64 x1) (by omega))).mono ?_
  rintro e w4 ⟨rfl, hr4, hg4⟩
  rw [H2.out] at hr4 ⊢
  have B4 := hid ((B3.out.num0 x1).grown hg4)
  have R4 := hid hr4
  clear hr4 hg4
  clear c0 c1 c2 c3 c4 c5 f1 B3 R3
  obtain ⟨c0, c1, c2, c3, c4, c5⟩ := B4.out.cells
  have f2 := B4.out.free 1
  go_wp2_with fail
  refine (rnumber_any (R4.out.set (p + 1) 1 (.int .i64 x2) (by omega))).mono ?_
  rintro e w5 ⟨rfl, hr5, hg5⟩
  rw [H3.out] at hr5 ⊢
  have B5 := hid ((B4.out.num1 x2).grown hg5)
  have R5 := hid hr5
  clear hr5 hg5
  clear c0 c1 c2 c3 c4 c5 f2 B4 R4
  obtain ⟨c0, c1, c2, c3, c4, c5⟩ := B5.out.cells
  have f3 := B5.out.free 2
  go_wp2_with fail
  refine (rnumber_any (R5.out.set (p + 1) 2 (.int .i64 x3) (by omega))).mono ?_
  rintro e w6 ⟨rfl, hr6, hg6⟩
  rw [H4.out] at hr6 ⊢
  have B6 := hid ((B5.out.num2 x3).grown hg6)
  have R6 := hid hr6
  clear hr6 hg6
  clear c0 c1 c2 c3 c4 c5 f3 B5 R5
  obtain ⟨c0, c1, c2, c3, c4, c5⟩ := B6.out.cells
  have f4 := B6.out.free 3
  go_wp2_with fail
  refine (rnumber_any (R6.out.set (p + 1) 3 (.int .i64 x4) (by omega))).mono ?_
  rintro e w7 ⟨rfl, hr7, hg7⟩
  rw [H5.out] at hr7 ⊢
  have B7 := hid ((B6.out.num3 x4).grown hg7)
  have R7 := hid hr7
  clear hr7 hg7
  clear c0 c1 c2 c3 c4 c5 f4 B6 R6
  obtain ⟨c0, c1, c2, c3, c4, c5⟩ := B7.out.cells
  have f5 := B7.out.free 4
  go_wp2_with fail
  refine (rnumber_any (R7.out.set (p + 1) 4 (.int .i64 x5) (by omega))).mono ?_
  rintro e w8 ⟨rfl, hr8, hg8⟩
  rw [H6.out] at hr8 ⊢
  have B8 := hid ((B7.out.num4 x5).grown hg8)
  have R8 := hid hr8
  clear hr8 hg8
  clear c0 c1 c2 c3 c4 c5 f5 B7 R7
  by_cases hc : x6 < 1 ∨ 64 < x6
  · have HF : Hid (readBatchL l = (zeroBat, 0, 4)) := by show _ = _; rw [HN2.out, HBR.out, if_pos hc]
    have X8 := hid B8.out.outs
    obtain ⟨c0, c1, c2, c3, c4, c5⟩ := six X8.out
    obtain ⟨f0, f1, f2, f3, f4, f5⟩ := six_frozen X8.out
    rcases hc with hc | hc
    · go_wp2
      have Z := hid (X8.out.six (.int .i64 0) (.int .i64 0) (.int .i64 0) (.int .i64 0) (.int .i64 0) (.slice none 0 0))
      obtain ⟨e0, e1, e2, e3, e4, e5⟩ := six Z.out
      refine bodyPost_ret (v := .tuple #[.agg #[.int .i64 0, .int .i64 0, .int .i64 0, .int .i64 0, .int .i64 0, .slice none 0 0], .int .i64 0, .int .i64 4]) (by simp [results, Tryd.results43, go_sem, e0, e1, e2, e3, e4, e5]) rfl ⟨.slice none 0 0, by rw [HF.out]; rfl, by rw [HF.out]; exact recs_nil _, ?_, fun k hk => by cases hk⟩
      exact Z.out.below
    · by_cases hc1 : x6 < 1
      · exfalso; omega
      · go_wp2
        have Z := hid (X8.out.six (.int .i64 0) (.int .i64 0) (.int .i64 0) (.int .i64 0) (.int .i64 0) (.slice none 0 0))
        obtain ⟨e0, e1, e2, e3, e4, e5⟩ := six Z.out
        refine bodyPost_ret (v := .tuple #[.agg #[.int .i64 0, .int .i64 0, .int .i64 0, .int .i64 0, .int .i64 0, .slice none 0 0], .int .i64 0, .int .i64 4]) (by simp [results, Tryd.results43, go_sem, e0, e1, e2, e3, e4, e5]) rfl ⟨.slice none 0 0, by rw [HF.out]; rfl, by rw [HF.out]; exact recs_nil _, ?_, fun k hk => by cases hk⟩
        exact Z.out.below
  have hc1 : ¬ x6 < 1 := by omega
  have hc2 : ¬ 64 < x6 := by omega
  obtain ⟨cn, rfl⟩ := Int.eq_ofNat_of_zero_le (show 0 ≤ x6 by omega)
  rw [if_neg hc, Int.toNat_natCast] at HBR
  clear hc
  go_wp2
  go_loopg [10] cn (fun kx s10 wr => ∃ (k : Nat) (rv : Value), k ≤ cn ∧ cn - k ≤ kx ∧ s10 = .int .i64 k ∧ Hid (Rb w p x1 x2 x3 x4 x5 (flatR (recsR k s6).1) k rv wr) ∧ Hid (Rf wr p (recsR k s6).2))
  case atStart => exact ⟨0, _, by omega, by omega, rfl, B8, R8⟩
  case round =>
    obtain ⟨k, rv, hk, hkx, rfl, HD, HE⟩ := hrel
    clear B8 R8
    by_cases hlt : k < cn
    · have hlt' : (k : Int) < (cn : Int) := by omega
      obtain ⟨T, t1, hT⟩ : ∃ x s, numS (recsR k s6).2 = (x, s) := ⟨_, _, rfl⟩
      obtain ⟨K, t2, hK⟩ : ∃ x s, textR 1000 t1 = (x, s) := ⟨_, _, rfl⟩
      obtain ⟨V, t3, hV⟩ : ∃ x s, textR 1000 t2 = (x, s) := ⟨_, _, rfl⟩
      have HQ : Hid (flatR (recsR (k + 1) s6).1 = flatR (recsR k s6).1 ++ recCells ⟨K, V, T⟩ ∧ (recsR (k + 1) s6).2 = t3) := by
        have e : recsR (k + 1) s6 = ((recsR k s6).1 ++ [⟨K, V, T⟩], t3) := by simp [recsR, recR, hT, hK, hV]
        rw [e]
        exact ⟨by simp [flatR_append, flatR], rfl⟩
      have HT := hid hT
      have HK := hid hK
      have HV := hid hV
      clear hT hK hV
      have HRW : Hid (∀ q, rv.ownBlock = some q → q < wr.heap.size) := fun q hq => (World.ownsRow.lt HD.out.row q hq).2
      have HRL : Hid (∀ q, rv.ownBlock = some q → p + 2 ≤ q) := fun q hq => (World.ownsRow.lt HD.out.row q hq).1
      have hp0 := HD.out.hi
      generalize flatR (recsR k s6).1 = F at *
      go_wp2_with fail
      refine (rnumber_any HE.out).mono ?_
      rintro e w10 ⟨rfl, hr, hg⟩
      rw [HT.out] at hr ⊢
      have hs10 := hg.size
      have B10 := hid (HD.out.grown hg)
      have R10 := hid hr
      clear hr hg
      go_wp2_with fail
      refine (rtext_any (R10.out.alloc (.cells #[.string ⟨#[]⟩, .string ⟨#[]⟩, .int .i64 T] 65)) 1000 (by omega) (by omega)).mono ?_
      rintro e w11 ⟨rfl, hr, hg⟩
      rw [HK.out] at hr ⊢
      have G11 := hid ((hg.block w10.heap.size (by simp) (by simp <;> omega)).trans (heap_alloc_new w10 (.cells #[.string ⟨#[]⟩, .string ⟨#[]⟩, .int .i64 T] 65)))
      have hs11 := hg.size
      simp at hs11
      have B11 := hid ((B10.out.alloc (.cells #[.string ⟨#[]⟩, .string ⟨#[]⟩, .int .i64 T] 65)).grown hg)
      have R11 := hid hr
      clear hr hg B10 R10
      generalize w10.heap.size = g at *
      have d0 := cell_blk G11.out 0 _ rfl
      have f0 := frozen_blk G11.out 0
      go_wp2_with fail
      refine (rtext_any (R11.out.set g 0 (.string (strOf K)) (by omega)) 1000 (by omega) (by omega)).mono ?_
      rintro e w12 ⟨rfl, hr, hg⟩
      rw [HV.out] at hr ⊢
      have hs12 : w11.heap.size ≤ w12.heap.size := by have := hg.size; simpa [World.setCell] using this
      have G12 : Hid (w12.heap[g]? = some (.cells #[.string (strOf K), .string ⟨#[]⟩, .int .i64 T] 65)) := (hg.block g (by simp [World.setCell] <;> omega) (by simp <;> omega)).trans (set_box (j := 0) (u := .string (strOf K)) G11.out)
      have B12 := hid ((B11.out.set g 0 (.string (strOf K)) (by omega) (fun q hq => by have := HRW.out q hq; omega)).grown hg)
      have R12 := hid (hr.set g 1 (.string (strOf V)) (by omega))
      have B13 := hid (B12.out.set g 1 (.string (strOf V)) (by omega) (fun q hq => by have := HRW.out q hq; omega))
      clear hr hg d0 f0 B11 R11 G11
      have d0 := cell_blk G12.out 0 _ rfl
      have d1 := cell_blk G12.out 1 _ rfl
      have d2 := cell_blk G12.out 2 _ rfl
      have f1 := frozen_blk G12.out 1
      have b5 := cell_blk B12.out.box 5 rv rfl
      have hne1 : ¬ g = p + 1 := by omega
      have hne2 : ¬ p + 1 = g := by omega
      have HX : Hid (∀ (O : Obj) (g2 cap2 : Nat) (w14 : World), w14.ownsRow (p + 2) 65 3 (.slice (some ⟨g2, 0, none⟩) (k + 1) cap2) (k + 1) (F ++ recCells ⟨K, V, T⟩) → ((w12.setCell ⟨g, 1, none⟩ (.string (strOf V))).alloc O).grownBy w14 rv.ownBlock →
          w14.cell? ⟨p + 1, 5, none⟩ = some rv ∧ w14.frozen? ⟨p + 1, 5, none⟩ = false ∧ Rb w p x1 x2 x3 x4 x5 (F ++ recCells ⟨K, V, T⟩) (k + 1) (.slice (some ⟨g2, 0, none⟩) (k + 1) cap2) (w14.setCell ⟨p + 1, 5, none⟩ (.slice (some ⟨g2, 0, none⟩) (k + 1) cap2)) ∧ Rf (w14.setCell ⟨p + 1, 5, none⟩ (.slice (some ⟨g2, 0, none⟩) (k + 1) cap2)) p t3) := fun O g2 cap2 w14 ho hg => by
        obtain ⟨e1, e2, e3⟩ := B13.out.more ho hg
        have hra := R12.out.alloc O
        exact ⟨e1, e2, e3, (hra.kept (hg.block p hra.lt (fun e => by have := HRL.out p e.symm; omega))).set _ _ _ (by omega)⟩
      have HRO : Hid (∀ O : Obj, ((w12.setCell ⟨g, 1, none⟩ (.string (strOf V))).alloc O).ownsRow (p + 2) 65 3 rv k F) := fun O => (B13.out.alloc O).row
      have hsz13 : (w12.setCell ⟨g, 1, none⟩ (.string (strOf V))).heap.size = w12.heap.size := by simp [World.setCell]
      obtain ⟨i0, hi0, hz0, hz1, hz2⟩ := info51
      have hcell : Hid (∀ u ∈ recCells ⟨K, V, T⟩, u.oneCell' = true) := by intro u hu; simp [recCells] at hu; rcases hu with rfl | rfl | rfl <;> rfl
      clear B12 B13 R12 G12
      have hkm : k ≤ 64 := by omega
      go_wp2_with (at_builtin; go_loud (refine wpList_append_lies _ rfl _ _ 48 rfl (p + 2) 65 i0 _ 3 40 Tryd.underlying48 hi0 hz0 hz1 hz2 rfl (by decide) rv k F rfl (HRO.out _) ⟨w12.heap.size, 0, none⟩ 1 1 (recCells ⟨K, V, T⟩) rfl rfl (rec_news ⟨K, V, T⟩ hsz13.symm) hcell.out (by decide) (by unfold maxLen; omega) (by omega) (by simp [World.setCell] <;> omega) (w12.heap.size + 1) (by simp [World.setCell]) ?_; intro g2 cap2 w14 hown14 hg14 _ _; obtain ⟨e1, e2, e3, e4⟩ := HX.out _ g2 cap2 w14 hown14 hg14; have E3 := hid e3; have E4 := hid e4; clear e3 e4 hown14 hg14))
      go_roundg (cn - (k + 1))
      case measure => omega
      case rel => exact ⟨k + 1, _, by omega, Nat.le_refl _, by go_num, by show Rb _ _ _ _ _ _ _ _ _ _ _; rw [HQ.out.1]; exact E3.out, by show Rf _ _ _; rw [HQ.out.2]; exact E4.out⟩
    · have hlt' : ¬ (k : Int) < (cn : Int) := by omega
      have hkm : k = cn := by omega
      subst hkm
      have hrec : Recs wr rv (recsR k s6).1 := recs_of_row (B := p + 2) (by rw [recsR_length]; exact HD.out.row) (fun r hr => rec_ok (recsR_ok k s6 r hr))
      have HO : Hid (∀ q, rv.ownBlock = some q → p + 2 ≤ q) := fun q hq => (World.ownsRow.lt HD.out.row q hq).1
      generalize recsR k s6 = Q at *
      obtain ⟨rs, rest, wrong⟩ := Q
      simp only at *
      obtain ⟨ra, rc, hrv, _⟩ := hrec.shape
      subst hrv
      have H19 := hid (rright_any (w := wr) ⟨x1, x2, x3, x4, x5, rs⟩ ra rc hrec ⟨HI.out.1, HI.out.2.1, HI.out.2.2.1, HI.out.2.2.2.1, HI.out.2.2.2.2⟩)
      have HREC := hid hrec
      clear hrec
      generalize rightL ⟨x1, x2, x3, x4, x5, rs⟩ = RR at *
      obtain ⟨b0, b1, b2, b3, b4, b5⟩ := HD.out.cells
      go_wp2_with fail
      refine H19.out.mono ?_
      rintro e w10 ⟨rfl, hb10⟩
      have B10 := hid (HD.out.next hb10)
      have R10 := hid (HE.out.next hb10)
      have HREC2 := hid (HREC.out.under hb10)
      have X10 := hid B10.out.outs
      have hlo := B10.out.lo
      clear hb10 b0 b1 b2 b3 b4 b5 HD HE H19 HREC
      obtain ⟨b0, b1, b2, b3, b4, b5⟩ := B10.out.cells
      have r0 := R10.out.c0
      have r1 := R10.out.c1
      obtain ⟨c0, c1, c2, c3, c4, c5⟩ := six X10.out
      obtain ⟨f0, f1, f2, f3, f4, f5⟩ := six_frozen X10.out
      simp only at r0 r1
      cases wrong with
      | true =>
        have HF : Hid (readBatchL l = (zeroBat, 0, 4)) := by show _ = _; rw [HN2.out, HBR.out, if_pos (.inl rfl)]
        go_wp2
        have Z := hid (X10.out.six (.int .i64 0) (.int .i64 0) (.int .i64 0) (.int .i64 0) (.int .i64 0) (.slice none 0 0))
        obtain ⟨e0, e1, e2, e3, e4, e5⟩ := six Z.out
        refine bodyPost_ret (v := .tuple #[.agg #[.int .i64 0, .int .i64 0, .int .i64 0, .int .i64 0, .int .i64 0, .slice none 0 0], .int .i64 0, .int .i64 4]) (by simp [results, Tryd.results43, go_sem, e0, e1, e2, e3, e4, e5]) rfl ⟨.slice none 0 0, by rw [HF.out]; rfl, by rw [HF.out]; exact recs_nil _, ?_, fun k hk => by cases hk⟩
        exact Z.out.below
      | false =>
        by_cases hz : rest = []
        · subst hz
          have r0' : w10.cell? ⟨p, 0, none⟩ = some (.string ⟨#[]⟩) := r0
          clear r0
          by_cases hR : RR = 0
          · subst hR
            have HF : Hid (readBatchL l = (⟨x1, x2, x3, x4, x5, rs⟩, 8 + n, 0)) := by show _ = _; rw [HN2.out, HBR.out, if_neg (by simp)]
            go_wp2
            have Z := hid (X10.out.six (.int .i64 x1) (.int .i64 x2) (.int .i64 x3) (.int .i64 x4) (.int .i64 x5) (.slice ra rs.length rc))
            obtain ⟨e0, e1, e2, e3, e4, e5⟩ := six Z.out
            refine bodyPost_ret (v := .tuple #[.agg #[.int .i64 x1, .int .i64 x2, .int .i64 x3, .int .i64 x4, .int .i64 x5, .slice ra rs.length rc], .int .i64 (8 + (n : Int)), .int .i64 0]) (by simp [results, Tryd.results43, go_sem, e0, e1, e2, e3, e4, e5]) rfl ⟨.slice ra rs.length rc, by rw [HF.out]; simp only [Int.natCast_add]; rfl, ?_, Z.out.below, fun q hq => by have := HO.out q hq; omega⟩
            rw [HF.out]
            exact HREC2.out.off (fun q hq => six_keep2 w10 w.heap.size q _ _ _ _ _ _ (by have := HO.out q hq; omega)) (by rw [six_size]; exact Nat.le_refl _)
          · have hne : (RR != 0) = true := by simp [hR]
            have HF : Hid (readBatchL l = (zeroBat, 0, 4)) := by show _ = _; rw [HN2.out, HBR.out, if_pos (.inr (.inr hR))]
            clear hR
            go_wp2
            have Z := hid (X10.out.six (.int .i64 0) (.int .i64 0) (.int .i64 0) (.int .i64 0) (.int .i64 0) (.slice none 0 0))
            obtain ⟨e0, e1, e2, e3, e4, e5⟩ := six Z.out
            refine bodyPost_ret (v := .tuple #[.agg #[.int .i64 0, .int .i64 0, .int .i64 0, .int .i64 0, .int .i64 0, .slice none 0 0], .int .i64 0, .int .i64 4]) (by simp [results, Tryd.results43, go_sem, e0, e1, e2, e3, e4, e5]) rfl ⟨.slice none 0 0, by rw [HF.out]; rfl, by rw [HF.out]; exact recs_nil _, ?_, fun k hk => by cases hk⟩
            exact Z.out.below
        · have HF : Hid (readBatchL l = (zeroBat, 0, 4)) := by show _ = _; rw [HN2.out, HBR.out, if_pos (.inr (.inl hz))]
          have hz1 : ((strOf rest).toList == (⟨#[]⟩ : ByteArray).toList) = false := by
            rw [ByteArray.toList_eq, strOf_data, beq_eq_false_iff_ne]
            exact fun e => hz (by simpa [ByteArray.toList_eq] using e)
          have hz2 : ((strOf rest).toList == ([] : List UInt8)) = false := by
            rw [ByteArray.toList_eq, strOf_data, beq_eq_false_iff_ne]
            exact hz
          have hz3 : ¬ (strOf rest).toList = [] := by rw [ByteArray.toList_eq, strOf_data]; exact hz
          clear hz
          go_wp2
          have Z := hid (X10.out.six (.int .i64 0) (.int .i64 0) (.int .i64 0) (.int .i64 0) (.int .i64 0) (.slice none 0 0))
          obtain ⟨e0, e1, e2, e3, e4, e5⟩ := six Z.out
          refine bodyPost_ret (v := .tuple #[.agg #[.int .i64 0, .int .i64 0, .int .i64 0, .int .i64 0, .int .i64 0, .slice none 0 0], .int .i64 0, .int .i64 4]) (by simp [results, Tryd.results43, go_sem, e0, e1, e2, e3, e4, e5]) rfl ⟨.slice none 0 0, by rw [HF.out]; rfl, by rw [HF.out]; exact recs_nil _, ?_, fun k hk => by cases hk⟩
          exact Z.out.below
end Go.Proofs.YtocdlaoklagdoaaDoor
