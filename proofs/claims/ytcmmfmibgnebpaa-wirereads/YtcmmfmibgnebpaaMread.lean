/- ReadMeta of wire. -/
import Derived.Test.YtcmmfmibgnebpaaMbody
import Derived.Test.YtcmmfmibgnebpaaRbatch
namespace Go.Proofs.Ytcmmfmibgnebpaa
open Go.RowKit Go.Maps
set_option linter.unusedSimpArgs false
set_option linter.unusedVariables false
set_option maxRecDepth 100000

theorem frozen8 {w W : World} {cs : Array Value} {T : TypeId} (h : Boxed w W (.cells cs T)) : W.frozen? ⟨w.heap.size, 0, none⟩ = false ∧ W.frozen? ⟨w.heap.size, 1, none⟩ = false ∧ W.frozen? ⟨w.heap.size, 2, none⟩ = false ∧ W.frozen? ⟨w.heap.size, 3, none⟩ = false ∧ W.frozen? ⟨w.heap.size, 4, none⟩ = false ∧ W.frozen? ⟨w.heap.size, 5, none⟩ = false ∧ W.frozen? ⟨w.heap.size, 6, none⟩ = false ∧ W.frozen? ⟨w.heap.size, 7, none⟩ = false :=
  ⟨frozen_blk h.box 0, frozen_blk h.box 1, frozen_blk h.box 2, frozen_blk h.box 3, frozen_blk h.box 4, frozen_blk h.box 5, frozen_blk h.box 6, frozen_blk h.box 7⟩
theorem Boxed.eight {w W : World} {a0 a1 a2 a3 a4 a5 a6 a7 : Value} {T : TypeId} (h : Boxed w W (.cells #[a0, a1, a2, a3, a4, a5, a6, a7] T)) (u0 u1 u2 u3 u4 u5 u6 u7 : Value) : Boxed w ((((((((W.setCell ⟨w.heap.size, 0, none⟩ u0).setCell ⟨w.heap.size, 1, none⟩ u1).setCell ⟨w.heap.size, 2, none⟩ u2).setCell ⟨w.heap.size, 3, none⟩ u3).setCell ⟨w.heap.size, 4, none⟩ u4).setCell ⟨w.heap.size, 5, none⟩ u5).setCell ⟨w.heap.size, 6, none⟩ u6).setCell ⟨w.heap.size, 7, none⟩ u7) (.cells #[u0, u1, u2, u3, u4, u5, u6, u7] T) := by
  refine ⟨eight_below h.below (Nat.le_refl _) _ _ _ _ _ _ _ _, ?_⟩
  have h0 : (W.setCell ⟨w.heap.size, 0, none⟩ u0).heap[w.heap.size]? = some (.cells #[u0, a1, a2, a3, a4, a5, a6, a7] T) := set_box (j := 0) (u := u0) h.box
  have h1 : ((W.setCell ⟨w.heap.size, 0, none⟩ u0).setCell ⟨w.heap.size, 1, none⟩ u1).heap[w.heap.size]? = some (.cells #[u0, u1, a2, a3, a4, a5, a6, a7] T) := set_box (j := 1) (u := u1) h0
  have h2 : (((W.setCell ⟨w.heap.size, 0, none⟩ u0).setCell ⟨w.heap.size, 1, none⟩ u1).setCell ⟨w.heap.size, 2, none⟩ u2).heap[w.heap.size]? = some (.cells #[u0, u1, u2, a3, a4, a5, a6, a7] T) := set_box (j := 2) (u := u2) h1
  have h3 : ((((W.setCell ⟨w.heap.size, 0, none⟩ u0).setCell ⟨w.heap.size, 1, none⟩ u1).setCell ⟨w.heap.size, 2, none⟩ u2).setCell ⟨w.heap.size, 3, none⟩ u3).heap[w.heap.size]? = some (.cells #[u0, u1, u2, u3, a4, a5, a6, a7] T) := set_box (j := 3) (u := u3) h2
  have h4 : (((((W.setCell ⟨w.heap.size, 0, none⟩ u0).setCell ⟨w.heap.size, 1, none⟩ u1).setCell ⟨w.heap.size, 2, none⟩ u2).setCell ⟨w.heap.size, 3, none⟩ u3).setCell ⟨w.heap.size, 4, none⟩ u4).heap[w.heap.size]? = some (.cells #[u0, u1, u2, u3, u4, a5, a6, a7] T) := set_box (j := 4) (u := u4) h3
  have h5 : ((((((W.setCell ⟨w.heap.size, 0, none⟩ u0).setCell ⟨w.heap.size, 1, none⟩ u1).setCell ⟨w.heap.size, 2, none⟩ u2).setCell ⟨w.heap.size, 3, none⟩ u3).setCell ⟨w.heap.size, 4, none⟩ u4).setCell ⟨w.heap.size, 5, none⟩ u5).heap[w.heap.size]? = some (.cells #[u0, u1, u2, u3, u4, u5, a6, a7] T) := set_box (j := 5) (u := u5) h4
  have h6 : (((((((W.setCell ⟨w.heap.size, 0, none⟩ u0).setCell ⟨w.heap.size, 1, none⟩ u1).setCell ⟨w.heap.size, 2, none⟩ u2).setCell ⟨w.heap.size, 3, none⟩ u3).setCell ⟨w.heap.size, 4, none⟩ u4).setCell ⟨w.heap.size, 5, none⟩ u5).setCell ⟨w.heap.size, 6, none⟩ u6).heap[w.heap.size]? = some (.cells #[u0, u1, u2, u3, u4, u5, u6, a7] T) := set_box (j := 6) (u := u6) h5
  have h7 : ((((((((W.setCell ⟨w.heap.size, 0, none⟩ u0).setCell ⟨w.heap.size, 1, none⟩ u1).setCell ⟨w.heap.size, 2, none⟩ u2).setCell ⟨w.heap.size, 3, none⟩ u3).setCell ⟨w.heap.size, 4, none⟩ u4).setCell ⟨w.heap.size, 5, none⟩ u5).setCell ⟨w.heap.size, 6, none⟩ u6).setCell ⟨w.heap.size, 7, none⟩ u7).heap[w.heap.size]? = some (.cells #[u0, u1, u2, u3, u4, u5, u6, u7] T) := set_box (j := 7) (u := u7) h6
  exact h7

set_option maxHeartbeats 1600000 in
theorem readMeta_any {w : World} (l : List UInt8) (hl : l.length ≤ maxLen) :
    Calls Try.prog 24 #[.string (strOf l)] w fun e w' => ∃ rv, e = .returned (.tuple #[.agg #[.int .i64 (readMetaL l).1.kind, .int .i64 (readMetaL l).1.a, .int .i64 (readMetaL l).1.b, .int .i64 (readMetaL l).1.c, .int .i64 (readMetaL l).1.d, .string (strOf (readMetaL l).1.name), .string (strOf (readMetaL l).1.text), rv], .int .i64 (readMetaL l).2]) ∧ Ints w' rv (readMetaL l).1.list ∧ Below w.heap.size w w' := by
  have hsz := strOf_size l
  have hlm := hl
  unfold maxLen at hlm
  by_cases h8 : l.length < 4
  · have h8' : (l.length : Int) < 4 := by omega
    have HF : Hid (readMetaL l = (zeroMet, 5)) := by show _ = _; unfold readMetaL; rw [if_pos h8]
    go_enter Try.func24, Try.ntmps24
    go_wp2
    refine bodyPost_ret (v := .tuple #[.agg #[.int .i64 0, .int .i64 0, .int .i64 0, .int .i64 0, .int .i64 0, .string ⟨#[]⟩, .string ⟨#[]⟩, .slice none 0 0], .int .i64 5]) (by simp [results, Try.results24, go_sem]) rfl ⟨.slice none 0 0, by rw [HF.out]; rfl, by rw [HF.out]; exact ints_nil _, ?_⟩
    exact (Below.refl _ _).alloc (Nat.le_refl _) _
  have h8' : ¬ (l.length : Int) < 4 := by omega
  by_cases hb : 2048 < l.length
  · have hb' : 2048 < (l.length : Int) := by omega
    have HF : Hid (readMetaL l = (zeroMet, 2)) := by show _ = _; unfold readMetaL; rw [if_neg h8, if_pos hb]
    go_enter Try.func24, Try.ntmps24
    go_wp2
    refine bodyPost_ret (v := .tuple #[.agg #[.int .i64 0, .int .i64 0, .int .i64 0, .int .i64 0, .int .i64 0, .string ⟨#[]⟩, .string ⟨#[]⟩, .slice none 0 0], .int .i64 2]) (by simp [results, Try.results24, go_sem]) rfl ⟨.slice none 0 0, by rw [HF.out]; rfl, by rw [HF.out]; exact ints_nil _, ?_⟩
    exact (Below.refl _ _).alloc (Nat.le_refl _) _
  have hb' : ¬ 2048 < (l.length : Int) := by omega
  have hn := fourN_lt l
  have H38 := hid (fun W => readFour_any (strOf l) W (by rw [hsz]; omega) (by rw [hsz]; exact hl))
  rw [strOf_data] at H38
  have HN : Hid (readMetaL l = if fourN l ≠ crcL (l.drop 4) then (zeroMet, 6)
      else if (metS (l.drop 4)).2 = false then (zeroMet, 4)
      else ((metS (l.drop 4)).1, 0)) := by show _ = _; unfold readMetaL; rw [if_neg h8, if_neg hb]
  have hx4 := extract_drop l 4
  have hml : (l.drop 4).length = l.length - 4 := by simp
  generalize l.drop 4 = m at *
  have H14 := hid (fun W => crc_any (strOf m) W (by rw [strOf_size, hml]; unfold maxLen; omega))
  rw [strOf_data] at H14
  have hC := crcL_lt m
  have H43 := hid (fun W => readMbody_any (w := W) m (by rw [hml]; unfold maxLen; omega))
  generalize crcL m = C at *
  generalize fourN l = S at *
  have q38 : Hid (∀ W : World, Calls Try.prog 38 #[.string (strOf l)] W fun e w' => e = .returned (.int .i64 (S : Int)) ∧ w' = W) := fun W => (H38.out W).mono fun e w' ⟨h1, h2⟩ => ⟨h1, h2.symm⟩
  have q14 : Hid (∀ W : World, Calls Try.prog 14 #[.string (strOf m)] W fun e w' => e = .returned (.int .i64 (C : Int)) ∧ w' = W) := fun W => (H14.out W).mono fun e w' ⟨h1, h2⟩ => ⟨h1, h2.symm⟩
  have i1 : (4 : Int) ≤ (l.length : Int) := by omega
  clear H38 H14
  by_cases hS : S ≠ C
  · have hS' : ((S : Int) != (C : Int)) = true := by simp; omega
    have HF : Hid (readMetaL l = (zeroMet, 6)) := by show _ = _; rw [HN.out, if_pos hS]
    go_enter Try.func24, Try.ntmps24
    go_wp2
    go_quiet ((first | (go_at_call 38; exact Calls.quiet_of_same (q38.out _)) | (go_at_call 14; exact Calls.quiet_of_same (q14.out _)) | fail))
    go_wp2
    refine bodyPost_ret (v := .tuple #[.agg #[.int .i64 0, .int .i64 0, .int .i64 0, .int .i64 0, .int .i64 0, .string ⟨#[]⟩, .string ⟨#[]⟩, .slice none 0 0], .int .i64 6]) (by simp [results, Try.results24, go_sem]) rfl ⟨.slice none 0 0, by rw [HF.out]; rfl, by rw [HF.out]; exact ints_nil _, ?_⟩
    exact eight_below (below_drewN ((Below.refl _ _).alloc (Nat.le_refl _) _) _) (Nat.le_refl _) _ _ _ _ _ _ _ _
  have hS' : ((S : Int) != (C : Int)) = false := by simp; omega
  have HN2 : Hid (readMetaL l = if (metS m).2 = false then (zeroMet, 4) else ((metS m).1, 0)) := by show _ = _; rw [HN.out, if_neg hS]
  clear hS HN
  generalize metS m = B at *
  obtain ⟨M, ok⟩ := B
  simp only at *
  generalize hnm : strOf M.name = NM at *
  generalize htx : strOf M.text = TX at *
  have HNM := hid hnm
  have HTX := hid htx
  clear hnm htx
  cases ok with
  | false =>
    have HF : Hid (readMetaL l = (zeroMet, 4)) := by show _ = _; rw [HN2.out, if_pos rfl]
    go_enter Try.func24, Try.ntmps24
    go_wp2
    go_quiet ((first | (go_at_call 38; exact Calls.quiet_of_same (q38.out _)) | (go_at_call 14; exact Calls.quiet_of_same (q14.out _)) | fail))
    go_wp2_with fail
    refine (H43.out _).mono ?_
    rintro e w2 ⟨rv, rfl, hrec, hown, hb2⟩
    obtain ⟨ra, rc, hrv, _⟩ := hrec.shape
    subst hrv
    have X2 := hid (((Boxed.laid w (.cells #[.int .i64 0, .int .i64 0, .int .i64 0, .int .i64 0, .int .i64 0, .string ⟨#[]⟩, .string ⟨#[]⟩, .slice none 0 0] 43)).drewN nq).next hb2)
    have hw2 := X2.out.lt
    obtain ⟨c0, c1, c2, c3, c4, c5, c6, c7⟩ := eight X2.out
    obtain ⟨f0, f1, f2, f3, f4, f5, f6, f7⟩ := frozen8 X2.out
    clear hb2 hrec
    go_wp2
    have Z2 := (X2.out.eight (.int .i64 0) (.int .i64 0) (.int .i64 0) (.int .i64 0) (.int .i64 0) (.string ⟨#[]⟩) (.string ⟨#[]⟩) (.slice none 0 0)).next ((Below.refl _ _).alloc (Nat.le_refl _) (.cells #[.int .i64 M.kind, .int .i64 M.a, .int .i64 M.b, .int .i64 M.c, .int .i64 M.d, .string NM, .string TX, .slice ra M.list.length rc] 43))
    obtain ⟨e0, e1, e2, e3, e4, e5, e6, e7⟩ := eight Z2
    refine bodyPost_ret (v := .tuple #[.agg #[.int .i64 0, .int .i64 0, .int .i64 0, .int .i64 0, .int .i64 0, .string ⟨#[]⟩, .string ⟨#[]⟩, .slice none 0 0], .int .i64 4]) (by simp [results, Try.results24, go_sem, e0, e1, e2, e3, e4, e5, e6, e7]) rfl ⟨.slice none 0 0, by rw [HF.out]; rfl, by rw [HF.out]; exact ints_nil _, ?_⟩
    exact Z2.below
  | true =>
    have HF : Hid (readMetaL l = (M, 0)) := by show _ = _; rw [HN2.out, if_neg (by simp)]
    go_enter Try.func24, Try.ntmps24
    go_wp2
    go_quiet ((first | (go_at_call 38; exact Calls.quiet_of_same (q38.out _)) | (go_at_call 14; exact Calls.quiet_of_same (q14.out _)) | fail))
    go_wp2_with fail
    refine (H43.out _).mono ?_
    rintro e w2 ⟨rv, rfl, hrec, hown, hb2⟩
    obtain ⟨ra, rc, hrv, _⟩ := hrec.shape
    subst hrv
    have X2 := hid (((Boxed.laid w (.cells #[.int .i64 0, .int .i64 0, .int .i64 0, .int .i64 0, .int .i64 0, .string ⟨#[]⟩, .string ⟨#[]⟩, .slice none 0 0] 43)).drewN nq).next hb2)
    have hw2 := X2.out.lt
    have HREC := hid hrec
    have HOWN := hid hown
    obtain ⟨c0, c1, c2, c3, c4, c5, c6, c7⟩ := eight X2.out
    obtain ⟨f0, f1, f2, f3, f4, f5, f6, f7⟩ := frozen8 X2.out
    clear hb2 hrec hown
    go_wp2
    have Z2 := hid ((X2.out.eight (.int .i64 M.kind) (.int .i64 M.a) (.int .i64 M.b) (.int .i64 M.c) (.int .i64 M.d) (.string NM) (.string TX) (.slice ra M.list.length rc)).next ((Below.refl _ _).alloc (Nat.le_refl _) (.cells #[.int .i64 M.kind, .int .i64 M.a, .int .i64 M.b, .int .i64 M.c, .int .i64 M.d, .string NM, .string TX, .slice ra M.list.length rc] 43)))
    obtain ⟨e0, e1, e2, e3, e4, e5, e6, e7⟩ := eight Z2.out
    refine bodyPost_ret (v := .tuple #[.agg #[.int .i64 M.kind, .int .i64 M.a, .int .i64 M.b, .int .i64 M.c, .int .i64 M.d, .string NM, .string TX, .slice ra M.list.length rc], .int .i64 0]) (by simp [results, Try.results24, go_sem, e0, e1, e2, e3, e4, e5, e6, e7]) rfl ⟨.slice ra M.list.length rc, by rw [HF.out, ← HNM.out, ← HTX.out], ?_, ?_⟩
    · rw [HF.out]
      refine (HREC.out.off (fun q hq => eight_keep w2 w.heap.size q _ _ _ _ _ _ _ _ ?_) (by rw [eight_size]; exact Nat.le_refl _)).under ((Below.refl _ _).alloc (Nat.le_refl _) _)
      have h1 : (w.alloc (.cells #[.int .i64 0, .int .i64 0, .int .i64 0, .int .i64 0, .int .i64 0, .string ⟨#[]⟩, .string ⟨#[]⟩, .slice none 0 0] 43)).heap.size ≤ q := HOWN.out q hq
      simp at h1
      omega
    · exact Z2.out.below
end Go.Proofs.Ytcmmfmibgnebpaa
