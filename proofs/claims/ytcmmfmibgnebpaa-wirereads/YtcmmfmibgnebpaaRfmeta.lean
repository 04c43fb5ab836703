/- The document's ReadMeta. -/
import Derived.Test.YtcmmfmibgnebpaaRmmem
import Derived.Test.YtcmmfmibgnebpaaFour
namespace Go.Proofs.Ytcmmfmibgnebpaa
open Go.RowKit Go.Maps
set_option linter.unusedSimpArgs false
set_option linter.unusedVariables false
set_option maxRecDepth 100000

theorem readMetaL_R (l : List UInt8) (h4 : ¬ l.length < 4) (h5 : ¬ 2048 < l.length) : readMetaL l = if crcL (l.drop 4) ≠ fourN l then (zeroMet, (6 : Int))
      else match metR (l.drop 4) with
        | none => (zeroMet, (4 : Int))
        | some b => (b, (0 : Int)) := by
  unfold readMetaL
  rw [if_neg h4, if_neg h5, metR_eq]
  by_cases h3 : crcL (l.drop 4) ≠ fourN l
  · rw [if_pos h3, if_pos (fun e => h3 e.symm)]
  · rw [if_neg h3, if_neg (fun e => h3 (fun e2 => e e2.symm))]
    by_cases h4 : (metS (l.drop 4)).2 = false
    · rw [if_pos h4, if_pos h4]
    · rw [if_neg h4, if_neg h4]

theorem metR_steps {m : List UInt8} {x1 x2 x3 x4 x5 x8 : Int} {x6 x7 : List UInt8} {s1 s2 s3 s4 s5 s6 s7 s8 : RS} (h1 : numS ⟨m, false⟩ = (x1, s1)) (h2 : numS s1 = (x2, s2)) (h3 : numS s2 = (x3, s3)) (h4 : numS s3 = (x4, s4)) (h5 : numS s4 = (x5, s5)) (h6 : textR 32 s5 = (x6, s6)) (h7 : textR 1000 s6 = (x7, s7)) (h8 : numS s7 = (x8, s8)) :
    metR m = if x8 < 0 ∨ 64 < x8 then none
      else if (numsS x8.toNat s8).2.wrong = true ∨ (numsS x8.toNat s8).2.rest ≠ [] then none
      else some ⟨x1, x2, x3, x4, x5, x6, x7, (numsS x8.toNat s8).1⟩ := by
  have e : numsS 5 ⟨m, false⟩ = ([x1, x2, x3, x4, x5], s5) := by simp [numsS, h1, h2, h3, h4, h5]
  unfold metR
  rw [e]
  simp only [h6, h7, h8]

theorem step_call41 {ops : Array Oper} {o : Oper} {a : Act} {w : World} {K : Act → World → Prop} {Q : Exit → Act → World → Prop} {E : Prop} {R : Ending → World → Prop} (hg : o.guard = none) (x : Nat)
    (ho : o.op = .call { callee := .value (.func 41), args := #[.tmp x], argTypes := #[62] }) (v : Value) (hx : a.tmps[x]?.getD undef = v) (hc : Calls Try.prog 41 #[v] w R) (hR : ∀ e w', R e w' → ∃ u, e = .returned u ∧ K (a.put o.dst u) w') :
    if Region.wanted o (yielded ops a.tmps) = true then Oper.wp Try.prog o a w K Q else E := by
  have hw : Region.wanted o (yielded ops a.tmps) = true := by simp [Region.wanted, hg]
  rw [if_pos hw]
  unfold Oper.wp
  simp only [go_sem, ho, hx]
  simp [go_sem, hx]
  refine hc.mono ?_
  rintro e w' hr
  obtain ⟨u, rfl, hK⟩ := hR e w' hr
  exact hK

set_option maxHeartbeats 3200000 in
theorem rreadMeta_any {w : World} (l : List UInt8) (hl : l.length ≤ maxLen) :
    Calls Try.prog 25 #[.string (strOf l)] w fun e w' => ∃ rv, e = .returned (.tuple #[.agg #[.int .i64 (readMetaL l).1.kind, .int .i64 (readMetaL l).1.a, .int .i64 (readMetaL l).1.b, .int .i64 (readMetaL l).1.c, .int .i64 (readMetaL l).1.d, .string (strOf (readMetaL l).1.name), .string (strOf (readMetaL l).1.text), rv], .int .i64 (readMetaL l).2]) ∧ Ints w' rv (readMetaL l).1.list ∧ Below w.heap.size w w' := by
  have hsz := strOf_size l
  have hlm := hl
  unfold maxLen at hlm
  by_cases h8 : l.length < 4
  · have h8' : (l.length : Int) < 4 := by omega
    have HF : Hid (readMetaL l = (zeroMet, 5)) := by show _ = _; unfold readMetaL; rw [if_pos h8]
    go_enter Try.func25, Try.ntmps25
    go_wp2
    refine bodyPost_ret (v := .tuple #[.agg #[.int .i64 0, .int .i64 0, .int .i64 0, .int .i64 0, .int .i64 0, .string ⟨#[]⟩, .string ⟨#[]⟩, .slice none 0 0], .int .i64 5]) (by simp [results, Try.results25, go_sem]) rfl ⟨.slice none 0 0, by rw [HF.out]; rfl, by rw [HF.out]; exact ints_nil _, ?_⟩
    exact (Below.refl _ _).alloc (Nat.le_refl _) _
  have h8' : ¬ (l.length : Int) < 4 := by omega
  by_cases hb : 2048 < l.length
  · have hb' : 2048 < (l.length : Int) := by omega
    have HF : Hid (readMetaL l = (zeroMet, 2)) := by show _ = _; unfold readMetaL; rw [if_neg h8, if_pos hb]
    go_enter Try.func25, Try.ntmps25
    go_wp2
    refine bodyPost_ret (v := .tuple #[.agg #[.int .i64 0, .int .i64 0, .int .i64 0, .int .i64 0, .int .i64 0, .string ⟨#[]⟩, .string ⟨#[]⟩, .slice none 0 0], .int .i64 2]) (by simp [results, Try.results25, go_sem]) rfl ⟨.slice none 0 0, by rw [HF.out]; rfl, by rw [HF.out]; exact ints_nil _, ?_⟩
    exact (Below.refl _ _).alloc (Nat.le_refl _) _
  have hb' : ¬ 2048 < (l.length : Int) := by omega
  have hn := fourN_lt l
  have H40 := hid (fun W => rfourN_any (strOf l) W (by rw [hsz]; omega) (by rw [hsz]; exact hl))
  rw [strOf_data] at H40
  have HN := hid (readMetaL_R l h8 hb)
  have hx4 := extract_drop l 4
  have hml : (l.drop 4).length = l.length - 4 := by simp
  generalize l.drop 4 = m at *
  have H15 := hid (fun W => rcrc_any (strOf m) W (by rw [strOf_size, hml]; unfold maxLen; omega))
  rw [strOf_data] at H15
  have hC := crcL_lt m
  have hmm : m.length ≤ maxLen := by rw [hml]; unfold maxLen; omega
  generalize crcL m = C at *
  generalize fourN l = S at *
  have i1 : (4 : Int) ≤ (l.length : Int) := by omega
  by_cases hS : C ≠ S
  · have hS' : ((C : Int) != (S : Int)) = true := by simp; omega
    have HF : Hid (readMetaL l = (zeroMet, 6)) := by show _ = _; rw [HN.out, if_pos hS]
    go_enter Try.func25, Try.ntmps25
    go_wp2_with fail
    refine (H15.out _).mono ?_
    rintro e w1 ⟨rfl, rfl⟩
    go_wp2_with fail
    refine (H40.out _).mono ?_
    rintro e w2 ⟨rfl, hb2⟩
    have X2 := hid ((Boxed.laid w (.cells #[.int .i64 0, .int .i64 0, .int .i64 0, .int .i64 0, .int .i64 0, .string ⟨#[]⟩, .string ⟨#[]⟩, .slice none 0 0] 43)).next hb2)
    clear hb2
    obtain ⟨c0, c1, c2, c3, c4, c5, c6, c7⟩ := eight X2.out
    obtain ⟨f0, f1, f2, f3, f4, f5, f6, f7⟩ := frozen8 X2.out
    go_wp2
    have Z := hid (X2.out.eight (.int .i64 0) (.int .i64 0) (.int .i64 0) (.int .i64 0) (.int .i64 0) (.string ⟨#[]⟩) (.string ⟨#[]⟩) (.slice none 0 0))
    obtain ⟨e0, e1, e2, e3, e4, e5, e6, e7⟩ := eight Z.out
    refine bodyPost_ret (v := .tuple #[.agg #[.int .i64 0, .int .i64 0, .int .i64 0, .int .i64 0, .int .i64 0, .string ⟨#[]⟩, .string ⟨#[]⟩, .slice none 0 0], .int .i64 6]) (by simp [results, Try.results25, go_sem, e0, e1, e2, e3, e4, e5, e6, e7]) rfl ⟨.slice none 0 0, by rw [HF.out]; rfl, by rw [HF.out]; exact ints_nil _, ?_⟩
    exact Z.out.below
  have hS' : ((C : Int) != (S : Int)) = false := by simp; omega
  have HN2 : Hid (readMetaL l = match metR m with | none => (zeroMet, (4 : Int)) | some b => (b, (0 : Int))) := by show _ = _; rw [HN.out, if_neg hS]
  clear hS HN
  obtain ⟨x1, s1, h1⟩ : ∃ x s, numS ⟨m, false⟩ = (x, s) := ⟨_, _, rfl⟩
  obtain ⟨x2, s2, h2⟩ : ∃ x s, numS s1 = (x, s) := ⟨_, _, rfl⟩
  obtain ⟨x3, s3, h3⟩ : ∃ x s, numS s2 = (x, s) := ⟨_, _, rfl⟩
  obtain ⟨x4, s4, h4⟩ : ∃ x s, numS s3 = (x, s) := ⟨_, _, rfl⟩
  obtain ⟨x5, s5, h5⟩ : ∃ x s, numS s4 = (x, s) := ⟨_, _, rfl⟩
  obtain ⟨x6, s6, h6⟩ : ∃ x s, textR 32 s5 = (x, s) := ⟨_, _, rfl⟩
  obtain ⟨x7, s7, h7⟩ : ∃ x s, textR 1000 s6 = (x, s) := ⟨_, _, rfl⟩
  obtain ⟨x8, s8, hx8⟩ : ∃ x s, numS s7 = (x, s) := ⟨_, _, rfl⟩
  have HBR := hid (metR_steps h1 h2 h3 h4 h5 h6 h7 hx8)
  have H1 := hid h1
  have H2 := hid h2
  have H3 := hid h3
  have H4 := hid h4
  have H5 := hid h5
  have H6 := hid h6
  have H7 := hid h7
  have H8 := hid hx8
  clear h1 h2 h3 h4 h5 h6 h7 hx8
  have HMM := hid hmm
  go_enter Try.func25, Try.ntmps25
  go_wp2_with fail
  refine (H15.out _).mono ?_
  rintro e w1 ⟨rfl, rfl⟩
  go_wp2_with fail
  refine (H40.out _).mono ?_
  rintro e w2 ⟨rfl, hb2⟩
  have X2 := hid ((Boxed.laid w (.cells #[.int .i64 0, .int .i64 0, .int .i64 0, .int .i64 0, .int .i64 0, .string ⟨#[]⟩, .string ⟨#[]⟩, .slice none 0 0] 43)).next hb2)
  clear hb2
  have B0 := hid (Rm.start X2.out (.cells #[.string (strOf m), .bool false] 64))
  have R0 := hid (Rf.start (W := w2) m HMM.out (.cells #[.int .i64 0, .int .i64 0, .int .i64 0, .int .i64 0, .int .i64 0, .string ⟨#[]⟩, .string ⟨#[]⟩, .slice none 0 0] 43))
  clear X2
  go_wp2_with fail
  refine (rnumber_any (R0.out)).mono ?_
  rintro e w3 ⟨rfl, hr3, hg3⟩
  rw [H1.out] at hr3 ⊢
  have B3 := hid ((B0.out).grown hg3)
  have R3 := hid hr3
  clear hr3 hg3
  generalize w2.heap.size = p at *
  clear B0 R0
  obtain ⟨c0, c1, c2, c3, c4, c5, c6, c7⟩ := B3.out.cells
  have f1 := B3.out.free 0
  go_wp2_with fail
  refine (rnumber_any (R3.out.set (p + 1) 0 (.int .i64 x1) (by omega))).mono ?_
  rintro e w4 ⟨rfl, hr4, hg4⟩
  rw [H2.out] at hr4 ⊢
  have B4 := hid ((B3.out.num0 x1).grown hg4)
  have R4 := hid hr4
  clear hr4 hg4
  clear c0 c1 c2 c3 c4 c5 c6 c7 f1 B3 R3
  obtain ⟨c0, c1, c2, c3, c4, c5, c6, c7⟩ := B4.out.cells
  have f2 := B4.out.free 1
  go_wp2_with fail
  refine (rnumber_any (R4.out.set (p + 1) 1 (.int .i64 x2) (by omega))).mono ?_
  rintro e w5 ⟨rfl, hr5, hg5⟩
  rw [H3.out] at hr5 ⊢
  have B5 := hid ((B4.out.num1 x2).grown hg5)
  have R5 := hid hr5
  clear hr5 hg5
  clear c0 c1 c2 c3 c4 c5 c6 c7 f2 B4 R4
  obtain ⟨c0, c1, c2, c3, c4, c5, c6, c7⟩ := B5.out.cells
  have f3 := B5.out.free 2
  go_wp2_with fail
  refine (rnumber_any (R5.out.set (p + 1) 2 (.int .i64 x3) (by omega))).mono ?_
  rintro e w6 ⟨rfl, hr6, hg6⟩
  rw [H4.out] at hr6 ⊢
  have B6 := hid ((B5.out.num2 x3).grown hg6)
  have R6 := hid hr6
  clear hr6 hg6
  clear c0 c1 c2 c3 c4 c5 c6 c7 f3 B5 R5
  obtain ⟨c0, c1, c2, c3, c4, c5, c6, c7⟩ := B6.out.cells
  have f4 := B6.out.free 3
  go_wp2_with fail
  refine (rnumber_any (R6.out.set (p + 1) 3 (.int .i64 x4) (by omega))).mono ?_
  rintro e w7 ⟨rfl, hr7, hg7⟩
  rw [H5.out] at hr7 ⊢
  have B7 := hid ((B6.out.num3 x4).grown hg7)
  have R7 := hid hr7
  clear hr7 hg7
  clear c0 c1 c2 c3 c4 c5 c6 c7 f4 B6 R6
  obtain ⟨c0, c1, c2, c3, c4, c5, c6, c7⟩ := B7.out.cells
  have f5 := B7.out.free 4
  go_wp2_with fail
  refine (rtext_any (R7.out.set (p + 1) 4 (.int .i64 x5) (by omega)) 32 (by omega) (by omega)).mono ?_
  rintro e w8 ⟨rfl, hr8, hg8⟩
  rw [H6.out] at hr8 ⊢
  have B8 := hid ((B7.out.num4 x5).grown hg8)
  have R8 := hid hr8
  clear hr8 hg8
  clear c0 c1 c2 c3 c4 c5 c6 c7 f5 B7 R7
  obtain ⟨c0, c1, c2, c3, c4, c5, c6, c7⟩ := B8.out.cells
  have f6 := B8.out.free 5
  go_wp2_with fail
  refine (rtext_any (R8.out.set (p + 1) 5 (.string (strOf x6)) (by omega)) 1000 (by omega) (by omega)).mono ?_
  rintro e w9 ⟨rfl, hr9, hg9⟩
  rw [H7.out] at hr9 ⊢
  have B9 := hid ((B8.out.txt5 (strOf x6)).grown hg9)
  have R9 := hid hr9
  clear hr9 hg9
  clear c0 c1 c2 c3 c4 c5 c6 c7 f6 B8 R8
  obtain ⟨c0, c1, c2, c3, c4, c5, c6, c7⟩ := B9.out.cells
  have f7 := B9.out.free 6
  go_wp2_with fail
  refine (rnumber_any (R9.out.set (p + 1) 6 (.string (strOf x7)) (by omega))).mono ?_
  rintro e w10 ⟨rfl, hr10, hg10⟩
  rw [H8.out] at hr10 ⊢
  have B10 := hid ((B9.out.txt6 (strOf x7)).grown hg10)
  have R10 := hid hr10
  clear hr10 hg10
  clear c0 c1 c2 c3 c4 c5 c6 c7 f7 B9 R9
  by_cases hc : x8 < 0 ∨ 64 < x8
  · have HF : Hid (readMetaL l = (zeroMet, 4)) := by show _ = _; rw [HN2.out, HBR.out, if_pos hc]
    have X10 := hid B10.out.outs
    obtain ⟨c0, c1, c2, c3, c4, c5, c6, c7⟩ := eight X10.out
    obtain ⟨f0, f1, f2, f3, f4, f5, f6, f7⟩ := frozen8 X10.out
    rcases hc with hc | hc
    · go_wp2
      have Z := hid (X10.out.eight (.int .i64 0) (.int .i64 0) (.int .i64 0) (.int .i64 0) (.int .i64 0) (.string ⟨#[]⟩) (.string ⟨#[]⟩) (.slice none 0 0))
      obtain ⟨e0, e1, e2, e3, e4, e5, e6, e7⟩ := eight Z.out
      refine bodyPost_ret (v := .tuple #[.agg #[.int .i64 0, .int .i64 0, .int .i64 0, .int .i64 0, .int .i64 0, .string ⟨#[]⟩, .string ⟨#[]⟩, .slice none 0 0], .int .i64 4]) (by simp [results, Try.results25, go_sem, e0, e1, e2, e3, e4, e5, e6, e7]) rfl ⟨.slice none 0 0, by rw [HF.out]; rfl, by rw [HF.out]; exact ints_nil _, ?_⟩
      exact Z.out.below
    · by_cases hc1 : x8 < 0
      · exfalso; omega
      · go_wp2
        have Z := hid (X10.out.eight (.int .i64 0) (.int .i64 0) (.int .i64 0) (.int .i64 0) (.int .i64 0) (.string ⟨#[]⟩) (.string ⟨#[]⟩) (.slice none 0 0))
        obtain ⟨e0, e1, e2, e3, e4, e5, e6, e7⟩ := eight Z.out
        refine bodyPost_ret (v := .tuple #[.agg #[.int .i64 0, .int .i64 0, .int .i64 0, .int .i64 0, .int .i64 0, .string ⟨#[]⟩, .string ⟨#[]⟩, .slice none 0 0], .int .i64 4]) (by simp [results, Try.results25, go_sem, e0, e1, e2, e3, e4, e5, e6, e7]) rfl ⟨.slice none 0 0, by rw [HF.out]; rfl, by rw [HF.out]; exact ints_nil _, ?_⟩
        exact Z.out.below
  have hc1 : ¬ x8 < 0 := by omega
  have hc2 : ¬ 64 < x8 := by omega
  obtain ⟨cn, rfl⟩ := Int.eq_ofNat_of_zero_le (show 0 ≤ x8 by omega)
  rw [if_neg hc, Int.toNat_natCast] at HBR
  clear hc
  go_wp2
  go_loopg [7] cn (fun kx s7x wr => ∃ (k : Nat) (rv : Value), k ≤ cn ∧ cn - k ≤ kx ∧ s7x = .int .i64 k ∧ Hid (Rm w p x1 x2 x3 x4 x5 (strOf x6) (strOf x7) (ic (numsS k s8).1) k rv wr) ∧ Hid (Rf wr p (numsS k s8).2))
  case atStart => exact ⟨0, _, by omega, by omega, rfl, B10, R10⟩
  case round =>
    obtain ⟨k, rv, hk, hkx, rfl, HD, HE⟩ := hrel
    clear B10 R10
    by_cases hlt : k < cn
    · have hlt' : (k : Int) < (cn : Int) := by omega
      obtain ⟨T, t1, hT⟩ : ∃ x s, numS (numsS k s8).2 = (x, s) := ⟨_, _, rfl⟩
      have HQ : Hid (ic (numsS (k + 1) s8).1 = ic (numsS k s8).1 ++ [.int .i64 T] ∧ (numsS (k + 1) s8).2 = t1) := by
        have e : numsS (k + 1) s8 = ((numsS k s8).1 ++ [T], t1) := by simp [numsS, hT]
        rw [e]
        exact ⟨by simp [ic], rfl⟩
      have HRL : Hid (∀ q, rv.ownBlock = some q → p + 2 ≤ q) := fun q hq => (World.ownsRow.lt HD.out.row q hq).1
      have hp0 := HD.out.hi
      have hbox := cell_blk HD.out.box 7 rv rfl
      have H41 : Hid (∀ W, W.heap = wr.heap → W.os = wr.os → W.tape = wr.tape → W.output = wr.output → Calls Try.prog 41 #[.pointer (some ⟨p, 0, none⟩)] W fun e w' => e = .returned (.int .i64 T) ∧ Rf w' p t1 ∧ wr.grownBy w' (some p)) := fun W h1 h2 h3 h4 => by
        have hc := rnumber_any (w := W) (HE.out.kept (by rw [h1]))
        rw [hT] at hc
        exact hc.mono fun e w' ⟨e1, e2, e3⟩ => ⟨e1, e2, ⟨e3.os.trans h2, e3.tape.trans h3, e3.output.trans h4, by have := e3.size; rw [h1] at this; exact this, fun q hq hne => by have := e3.block q (by rw [h1]; exact hq) hne; rw [h1] at this; exact this⟩⟩
      clear hT
      generalize ic (numsS k s8).1 = F at *
      have HX : Hid (∀ w1 w2 g cap O, Rf w1 p t1 → wr.grownBy w1 (some p) → w2.ownsRow (p + 2) 3 1 (.slice (some ⟨g, 0, none⟩) (k + 1) cap) (k + 1) (F ++ [.int .i64 T]) → (w1.alloc O).grownBy w2 rv.ownBlock →
          w2.cell? ⟨p + 1, 7, none⟩ = some rv ∧ w2.frozen? ⟨p + 1, 7, none⟩ = false ∧ Rm w p x1 x2 x3 x4 x5 (strOf x6) (strOf x7) (F ++ [.int .i64 T]) (k + 1) (.slice (some ⟨g, 0, none⟩) (k + 1) cap) (w2.setCell ⟨p + 1, 7, none⟩ (.slice (some ⟨g, 0, none⟩) (k + 1) cap)) ∧ Rf (w2.setCell ⟨p + 1, 7, none⟩ (.slice (some ⟨g, 0, none⟩) (k + 1) cap)) p t1) := fun w1 w2 g cap O a1 a2 a3 a4 => by
        obtain ⟨e1, e2, e3⟩ := (HD.out.grown a2).more a3 a4
        have hra := a1.alloc O
        exact ⟨e1, e2, e3, (hra.kept (a4.block p hra.lt (fun e => by have := HRL.out p e.symm; omega))).set _ _ _ (by omega)⟩
      have HR4 : Hid (∀ w1, wr.grownBy w1 (some p) → ∀ O, (w1.alloc O).ownsRow (p + 2) 3 1 rv k F ∧ w1.cell? ⟨p + 1, 7, none⟩ = some rv) := fun w1 h1 O => ⟨((HD.out.grown h1).alloc O).row, cell_blk (HD.out.grown h1).box 7 rv rfl⟩
      have hkm : k ≤ 64 := by omega
      obtain ⟨i0, hi0, hz0, hz1, hz2⟩ := info3
      go_wp2
      go_region_law (first
        | (refine step_call41 rfl 65 rfl (.pointer (some ⟨p, 0, none⟩)) (by simp [Act.eval, Act.put]) (H41.out wr.drew rfl rfl rfl rfl) ?_; rintro e w4 ⟨rfl, hr4, hg4⟩; refine ⟨_, rfl, ?_⟩; have d4 := (HR4.out w4 hg4 (.cells #[] 0)).2; have d4b := fun O => (World.cell?_of_block (a := ⟨p + 1, 7, none⟩) (Below.heap_alloc w4 O (p + 1) (by have := hg4.size; omega))).trans d4; have hs4 := hg4.size)
        | (refine step_append_lies _ (by rfl) (.tmp 64) (.tmp 67) 41 (by rfl) (p + 2) 3 i0 _ 1 8 Try.underlying41 hi0 hz0 hz1 hz2 rfl (by decide) rv k F (by simp [Act.eval, Act.put]) (by exact (HR4.out w4 hg4 _).1) ⟨w4.heap.size, 0, none⟩ 1 1 [.int .i64 T] (by simp [Act.eval, Act.put]) rfl (by exact one_cell rfl) (by simp [Value.oneCell']) (by decide) (by unfold maxLen; omega) (by omega) (by simp; omega) (w4.heap.size + 1) (by simp) ?_; intro g cap w5 hown5 hg5 hat5 hlt5; obtain ⟨e1, e2, e3, e4⟩ := HX.out w4 w5 g cap _ hr4 hg4 hown5 ⟨hg5.os, hg5.tape, hg5.output, hg5.size, hg5.block⟩; have E3 := hid e3; have E4 := hid e4; clear e3 e4)
        | fail)
      all_goals
        go_wp2
        go_roundg (cn - (k + 1))
        case measure => omega
        case rel => exact ⟨k + 1, _, by omega, Nat.le_refl _, by go_num, by show Rm _ _ _ _ _ _ _ _ _ _ _ _ _; rw [HQ.out.1]; exact E3.out, by show Rf _ _ _; rw [HQ.out.2]; exact E4.out⟩
    · have hlt' : ¬ (k : Int) < (cn : Int) := by omega
      have hkm : k = cn := by omega
      subst hkm
      have hrec : Ints wr rv (numsS k s8).1 := ints_of_row (B := p + 2) (by rw [numsS_length]; exact HD.out.row)
      have HO : Hid (∀ q, rv.ownBlock = some q → p + 2 ≤ q) := fun q hq => (World.ownsRow.lt HD.out.row q hq).1
      generalize numsS k s8 = Q at *
      obtain ⟨ns, rest, wrong⟩ := Q
      simp only at *
      obtain ⟨ra, rc, hrv, _⟩ := hrec.shape
      subst hrv
      have HREC2 := hid hrec
      clear hrec
      have X10 := hid HD.out.outs
      have hlo := HD.out.lo
      obtain ⟨b0, b1, b2, b3, b4, b5, b6, b7⟩ := HD.out.cells
      have r0 := HE.out.c0
      have r1 := HE.out.c1
      clear HD HE
      obtain ⟨c0, c1, c2, c3, c4, c5, c6, c7⟩ := eight X10.out
      obtain ⟨f0, f1, f2, f3, f4, f5, f6, f7⟩ := frozen8 X10.out
      simp only at r0 r1
      cases wrong with
      | true =>
        have HF : Hid (readMetaL l = (zeroMet, 4)) := by show _ = _; rw [HN2.out, HBR.out, if_pos (.inl rfl)]
        go_wp2
        have Z := hid (X10.out.eight (.int .i64 0) (.int .i64 0) (.int .i64 0) (.int .i64 0) (.int .i64 0) (.string ⟨#[]⟩) (.string ⟨#[]⟩) (.slice none 0 0))
        obtain ⟨e0, e1, e2, e3, e4, e5, e6, e7⟩ := eight Z.out
        refine bodyPost_ret (v := .tuple #[.agg #[.int .i64 0, .int .i64 0, .int .i64 0, .int .i64 0, .int .i64 0, .string ⟨#[]⟩, .string ⟨#[]⟩, .slice none 0 0], .int .i64 4]) (by simp [results, Try.results25, go_sem, e0, e1, e2, e3, e4, e5, e6, e7]) rfl ⟨.slice none 0 0, by rw [HF.out]; rfl, by rw [HF.out]; exact ints_nil _, ?_⟩
        exact Z.out.below
      | false =>
        by_cases hz : rest = []
        · subst hz
          have r0' : wr.cell? ⟨p, 0, none⟩ = some (.string ⟨#[]⟩) := r0
          clear r0
          have HF : Hid (readMetaL l = (⟨x1, x2, x3, x4, x5, x6, x7, ns⟩, 0)) := by show _ = _; rw [HN2.out, HBR.out, if_neg (by simp)]
          go_wp2
          have Z := hid (X10.out.eight (.int .i64 x1) (.int .i64 x2) (.int .i64 x3) (.int .i64 x4) (.int .i64 x5) (.string (strOf x6)) (.string (strOf x7)) (.slice ra ns.length rc))
          obtain ⟨e0, e1, e2, e3, e4, e5, e6, e7⟩ := eight Z.out
          refine bodyPost_ret (v := .tuple #[.agg #[.int .i64 x1, .int .i64 x2, .int .i64 x3, .int .i64 x4, .int .i64 x5, .string (strOf x6), .string (strOf x7), .slice ra ns.length rc], .int .i64 0]) (by simp [results, Try.results25, go_sem, e0, e1, e2, e3, e4, e5, e6, e7]) rfl ⟨.slice ra ns.length rc, by rw [HF.out], ?_, Z.out.below⟩
          rw [HF.out]
          exact HREC2.out.off (fun q hq => eight_keep wr w.heap.size q _ _ _ _ _ _ _ _ (by have := HO.out q hq; omega)) (by rw [eight_size]; exact Nat.le_refl _)
        · have HF : Hid (readMetaL l = (zeroMet, 4)) := by show _ = _; rw [HN2.out, HBR.out, if_pos (.inr hz)]
          have hz1 : ((strOf rest).toList == (⟨#[]⟩ : ByteArray).toList) = false := by
            rw [ByteArray.toList_eq, strOf_data, beq_eq_false_iff_ne]
            exact fun e => hz (by simpa [ByteArray.toList_eq] using e)
          have hz2 : ((strOf rest).toList == ([] : List UInt8)) = false := by
            rw [ByteArray.toList_eq, strOf_data, beq_eq_false_iff_ne]
            exact hz
          have hz3 : ¬ (strOf rest).toList = [] := by rw [ByteArray.toList_eq, strOf_data]; exact hz
          clear hz
          go_wp2
          have Z := hid (X10.out.eight (.int .i64 0) (.int .i64 0) (.int .i64 0) (.int .i64 0) (.int .i64 0) (.string ⟨#[]⟩) (.string ⟨#[]⟩) (.slice none 0 0))
          obtain ⟨e0, e1, e2, e3, e4, e5, e6, e7⟩ := eight Z.out
          refine bodyPost_ret (v := .tuple #[.agg #[.int .i64 0, .int .i64 0, .int .i64 0, .int .i64 0, .int .i64 0, .string ⟨#[]⟩, .string ⟨#[]⟩, .slice none 0 0], .int .i64 4]) (by simp [results, Try.results25, go_sem, e0, e1, e2, e3, e4, e5, e6, e7]) rfl ⟨.slice none 0 0, by rw [HF.out]; rfl, by rw [HF.out]; exact ints_nil _, ?_⟩
          exact Z.out.below
end Go.Proofs.Ytcmmfmibgnebpaa
