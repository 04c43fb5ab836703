/- ReadBatch of wire. -/
import Derived.Test.YtocdlaoklagdoaaDoorRbody
namespace Go.Proofs.YtocdlaoklagdoaaDoor
open Go.RowKit Go.Maps
set_option linter.unusedSimpArgs false
set_option linter.unusedVariables false
set_option maxRecDepth 100000

theorem recs_nil (w : World) : Recs w (.slice none 0 0) [] := ⟨⟨none, 0, rfl, .inl rfl⟩, by simp, by simp⟩
theorem Recs.off {w w' : World} {v : Value} {rs : List Rec} (h : Recs w v rs) (hk : ∀ q, v.ownBlock = some q → w'.heap[q]? = w.heap[q]?) (hs : w.heap.size ≤ w'.heap.size) : Recs w' v rs := by
  obtain ⟨a, cap, e, ha⟩ := h.shape
  refine ⟨⟨a, cap, e, ?_⟩, h.ok, h.len⟩
  rcases ha with ha | ⟨b, off, e2, hl, hc⟩
  · exact .inl ha
  · exact .inr ⟨b, off, e2, Nat.lt_of_lt_of_le hl hs, fun i hi => (hc i hi).under (hk b (by rw [e, e2]; rfl))⟩
theorem bodyS_ints (l : List UInt8) : (bodyS l).1.ints := ⟨numS_i64 _, numS_i64 _, numS_i64 _, numS_i64 _, numS_i64 _⟩
theorem extract_mid (l : List UInt8) (a n : Nat) : (strOf l).extract a (a + n) = strOf ((l.drop a).take n) := by
  rw [Lib.extract_eq, strOf_data, Nat.add_sub_cancel_left]
  rfl

theorem six_below {B : Nat} {w W : World} {b : Nat} (h : Below B w W) (hb : B ≤ b) (u0 u1 u2 u3 u4 u5 : Value) : Below B w ((((((W.setCell ⟨b, 0, none⟩ u0).setCell ⟨b, 1, none⟩ u1).setCell ⟨b, 2, none⟩ u2).setCell ⟨b, 3, none⟩ u3).setCell ⟨b, 4, none⟩ u4).setCell ⟨b, 5, none⟩ u5) :=
  (((((h.setCell hb _).setCell hb _).setCell hb _).setCell hb _).setCell hb _).setCell hb _

theorem Boxed.drewN {w W : World} {O : Obj} (h : Boxed w W O) (n : Nat) : Boxed w (W.drewN n) O := ⟨below_drewN h.below n, h.box⟩
theorem six_frozen {w W : World} {cs : Array Value} {T : TypeId} (h : Boxed w W (.cells cs T)) : W.frozen? ⟨w.heap.size, 0, none⟩ = false ∧ W.frozen? ⟨w.heap.size, 1, none⟩ = false ∧ W.frozen? ⟨w.heap.size, 2, none⟩ = false ∧ W.frozen? ⟨w.heap.size, 3, none⟩ = false ∧ W.frozen? ⟨w.heap.size, 4, none⟩ = false ∧ W.frozen? ⟨w.heap.size, 5, none⟩ = false :=
  ⟨frozen_blk h.box 0, frozen_blk h.box 1, frozen_blk h.box 2, frozen_blk h.box 3, frozen_blk h.box 4, frozen_blk h.box 5⟩

theorem set_box {W : World} {q : Nat} {cs : Array Value} {T : TypeId} {j : Nat} {u : Value} (h : W.heap[q]? = some (.cells cs T)) : (W.setCell ⟨q, j, none⟩ u).heap[q]? = some (.cells (cs.setIfInBounds j u) T) := by
  rw [setCell_eq_setRow W q j _ T (0, 0) _ h, setRow_heap W q _ _ T (0, 0) h]
theorem six_size (W : World) (b : Nat) (u0 u1 u2 u3 u4 u5 : Value) : ((((((W.setCell ⟨b, 0, none⟩ u0).setCell ⟨b, 1, none⟩ u1).setCell ⟨b, 2, none⟩ u2).setCell ⟨b, 3, none⟩ u3).setCell ⟨b, 4, none⟩ u4).setCell ⟨b, 5, none⟩ u5).heap.size = W.heap.size := by simp [World.setCell]
theorem Boxed.six {w W : World} {a0 a1 a2 a3 a4 a5 : Value} {T : TypeId} (h : Boxed w W (.cells #[a0, a1, a2, a3, a4, a5] T)) (u0 u1 u2 u3 u4 u5 : Value) : Boxed w ((((((W.setCell ⟨w.heap.size, 0, none⟩ u0).setCell ⟨w.heap.size, 1, none⟩ u1).setCell ⟨w.heap.size, 2, none⟩ u2).setCell ⟨w.heap.size, 3, none⟩ u3).setCell ⟨w.heap.size, 4, none⟩ u4).setCell ⟨w.heap.size, 5, none⟩ u5) (.cells #[u0, u1, u2, u3, u4, u5] T) := by
  refine ⟨six_below h.below (Nat.le_refl _) _ _ _ _ _ _, ?_⟩
  exact set_box (j := 5) (u := u5) (set_box (j := 4) (u := u4) (set_box (j := 3) (u := u3) (set_box (j := 2) (u := u2) (set_box (j := 1) (u := u1) (set_box (j := 0) (u := u0) h.box)))))
theorem six_keep2 (wr : World) (b q : Nat) (u0 u1 u2 u3 u4 u5 : Value) (h : q ≠ b) : ((((((wr.setCell ⟨b, 0, none⟩ u0).setCell ⟨b, 1, none⟩ u1).setCell ⟨b, 2, none⟩ u2).setCell ⟨b, 3, none⟩ u3).setCell ⟨b, 4, none⟩ u4).setCell ⟨b, 5, none⟩ u5).heap[q]? = wr.heap[q]? := by
  have hs : ∀ (W : World) (j : Nat) (u : Value), (W.setCell ⟨b, j, none⟩ u).heap[q]? = W.heap[q]? := fun W j u => Below.heap_setCell W ⟨b, j, none⟩ u q h
  rw [hs, hs, hs, hs, hs, hs]

set_option maxHeartbeats 700000 in
theorem readBatch_any {w : World} (l : List UInt8) (hl : l.length ≤ maxLen) :
    Calls Tryd.prog 82 #[.string (strOf l)] w fun e w' => ∃ rv, e = .returned (.tuple #[.agg #[.int .i64 (readBatchL l).1.base, .int .i64 (readBatchL l).1.epoch, .int .i64 (readBatchL l).1.pid, .int .i64 (readBatchL l).1.pidEpoch, .int .i64 (readBatchL l).1.seq, rv], .int .i64 ((readBatchL l).2.1 : Nat), .int .i64 (readBatchL l).2.2]) ∧ Recs w' rv (readBatchL l).1.recs ∧ Below w.heap.size w w' ∧ ∀ k, rv.ownBlock = some k → w.heap.size ≤ k := by
  have hsz := strOf_size l
  have hlm := hl
  unfold maxLen at hlm
  by_cases h8 : l.length < 8
  · have h8' : (l.length : Int) < 8 := by omega
    have HF : Hid (readBatchL l = (zeroBat, 0, 5)) := by show _ = _; unfold readBatchL; rw [if_pos h8]
    go_enter Tryd.func82, Tryd.ntmps82
    go_wp2
    refine bodyPost_ret (v := .tuple #[.agg #[.int .i64 0, .int .i64 0, .int .i64 0, .int .i64 0, .int .i64 0, .slice none 0 0], .int .i64 0, .int .i64 5]) (by simp [results, Tryd.results82, go_sem]) rfl ⟨.slice none 0 0, by rw [HF.out]; rfl, by rw [HF.out]; exact recs_nil _, ?_, fun k hk => by cases hk⟩
    exact (Below.refl _ _).alloc (Nat.le_refl _) _
  have h8' : ¬ (l.length : Int) < 8 := by omega
  have hn := fourN_lt l
  have H38 := hid (fun W => readFour_any (strOf l) W (by rw [hsz]; omega) (by rw [hsz]; exact hl))
  rw [strOf_data] at H38
  have HN : Hid (readBatchL l = if 4096 < 8 + fourN l then (zeroBat, 0, 2)
      else if l.length < 8 + fourN l then (zeroBat, 0, 5)
      else if fourN (l.drop 4) ≠ crcL ((l.drop 8).take (fourN l)) then (zeroBat, 0, 6)
      else if (bodyS ((l.drop 8).take (fourN l))).2 = false ∨ rightL (bodyS ((l.drop 8).take (fourN l))).1 ≠ 0 then (zeroBat, 0, 4)
      else ((bodyS ((l.drop 8).take (fourN l))).1, 8 + fourN l, 0)) := by show _ = _; unfold readBatchL; rw [if_neg h8]
  have hx4 := extract_drop l 4
  have hxm := extract_mid l 8 (fourN l)
  have hd4 : (l.drop 4).length = l.length - 4 := by simp
  have hN4 := fourN_lt (l.drop 4)
  have H38b := hid (fun W => readFour_any (strOf (l.drop 4)) W (by rw [strOf_size, hd4]; omega) (by rw [strOf_size, hd4]; unfold maxLen; omega))
  rw [strOf_data] at H38b
  generalize fourN l = n at *
  by_cases hb : 4096 < 8 + n
  · have hb' : 4096 < 8 + (n : Int) := by omega
    have HF : Hid (readBatchL l = (zeroBat, 0, 2)) := by show _ = _; rw [HN.out, if_pos hb]
    clear hx4 hxm hd4 hN4
    go_enter Tryd.func82, Tryd.ntmps82
    go_wp2_with (go_at_call 91; refine (H38.out _).mono ?_; rintro e w1 ⟨rfl, rfl⟩)
    refine bodyPost_ret (v := .tuple #[.agg #[.int .i64 0, .int .i64 0, .int .i64 0, .int .i64 0, .int .i64 0, .slice none 0 0], .int .i64 0, .int .i64 2]) (by simp [results, Tryd.results82, go_sem]) rfl ⟨.slice none 0 0, by rw [HF.out]; rfl, by rw [HF.out]; exact recs_nil _, ?_, fun k hk => by cases hk⟩
    exact (Below.refl _ _).alloc (Nat.le_refl _) _
  have hb' : ¬ 4096 < 8 + (n : Int) := by omega
  by_cases hs : l.length < 8 + n
  · have hs' : (l.length : Int) < 8 + (n : Int) := by omega
    have HF : Hid (readBatchL l = (zeroBat, 0, 5)) := by show _ = _; rw [HN.out, if_neg hb, if_pos hs]
    clear hx4 hxm hd4 hN4
    go_enter Tryd.func82, Tryd.ntmps82
    go_wp2_with (go_at_call 91; refine (H38.out _).mono ?_; rintro e w1 ⟨rfl, rfl⟩)
    refine bodyPost_ret (v := .tuple #[.agg #[.int .i64 0, .int .i64 0, .int .i64 0, .int .i64 0, .int .i64 0, .slice none 0 0], .int .i64 0, .int .i64 5]) (by simp [results, Tryd.results82, go_sem]) rfl ⟨.slice none 0 0, by rw [HF.out]; rfl, by rw [HF.out]; exact recs_nil _, ?_, fun k hk => by cases hk⟩
    exact (Below.refl _ _).alloc (Nat.le_refl _) _
  have hs' : ¬ (l.length : Int) < 8 + (n : Int) := by omega
  have hml : ((l.drop 8).take n).length = n := by simp; omega
  rw [if_neg hb, if_neg hs] at HN
  generalize (l.drop 8).take n = m at *
  have H14 := hid (fun W => crc_any (strOf m) W (by rw [strOf_size, hml]; unfold maxLen; omega))
  rw [strOf_data] at H14
  have hC := crcL_lt m
  have H39 := hid (fun W => readBody_any (w := W) m (by rw [hml]; unfold maxLen; omega))
  have hI := hid (bodyS_ints m)
  generalize crcL m = C at *
  generalize fourN (l.drop 4) = S at *
  have q38 : Hid (∀ W : World, Calls Tryd.prog 91 #[.string (strOf (l.drop 4))] W fun e w' => e = .returned (.int .i64 (S : Int)) ∧ w' = W) := fun W => (H38b.out W).mono fun e w' ⟨h1, h2⟩ => ⟨h1, h2.symm⟩
  have q14 : Hid (∀ W : World, Calls Tryd.prog 23 #[.string (strOf m)] W fun e w' => e = .returned (.int .i64 (C : Int)) ∧ w' = W) := fun W => (H14.out W).mono fun e w' ⟨h1, h2⟩ => ⟨h1, h2.symm⟩
  have i1 : (4 : Int) ≤ (l.length : Int) := by omega
  have i2 : (8 : Int) ≤ 8 + (n : Int) := by omega
  have i3 : 8 + (n : Int) ≤ (l.length : Int) := by omega
  clear H38b H14 hd4
  by_cases hS : S ≠ C
  · have hS' : ((S : Int) != (C : Int)) = true := by simp; omega
    have HF : Hid (readBatchL l = (zeroBat, 0, 6)) := by show _ = _; rw [HN.out, if_pos hS]
    go_enter Tryd.func82, Tryd.ntmps82
    go_wp2_with (go_at_call 91; refine (H38.out _).mono ?_; rintro e w1 ⟨rfl, rfl⟩)
    go_quiet ((first | (go_at_call 91; exact Calls.quiet_of_same (q38.out _)) | (go_at_call 23; exact Calls.quiet_of_same (q14.out _))))
    go_wp2
    refine bodyPost_ret (v := .tuple #[.agg #[.int .i64 0, .int .i64 0, .int .i64 0, .int .i64 0, .int .i64 0, .slice none 0 0], .int .i64 0, .int .i64 6]) (by simp [results, Tryd.results82, go_sem]) rfl ⟨.slice none 0 0, by rw [HF.out]; rfl, by rw [HF.out]; exact recs_nil _, ?_, fun k hk => by cases hk⟩
    exact six_below (below_drewN ((Below.refl _ _).alloc (Nat.le_refl _) _) _) (Nat.le_refl _) _ _ _ _ _ _
  have hS' : ((S : Int) != (C : Int)) = false := by simp; omega
  have HN2 : Hid (readBatchL l = if (bodyS m).2 = false ∨ rightL (bodyS m).1 ≠ 0 then (zeroBat, 0, 4) else ((bodyS m).1, 8 + n, 0)) := by show _ = _; rw [HN.out, if_neg hS]
  have H18 : Hid (∀ (W : World) (a : Option Addr) (cap : Nat), Recs W (.slice a (bodyS m).1.recs.length cap) (bodyS m).1.recs → Calls Tryd.prog 45 #[.agg #[.int .i64 (bodyS m).1.base, .int .i64 (bodyS m).1.epoch, .int .i64 (bodyS m).1.pid, .int .i64 (bodyS m).1.pidEpoch, .int .i64 (bodyS m).1.seq, .slice a (bodyS m).1.recs.length cap]] W fun e w' => e = .returned (.int .i64 (rightL (bodyS m).1)) ∧ Below W.heap.size W w') := fun W a cap h => right_any (bodyS m).1 a cap h hI.out
  clear hS HN hI
  generalize bodyS m = B at *
  obtain ⟨b, ok⟩ := B
  simp only at *
  cases ok with
  | false =>
    have HF : Hid (readBatchL l = (zeroBat, 0, 4)) := by show _ = _; rw [HN2.out, if_pos (.inl rfl)]
    go_enter Tryd.func82, Tryd.ntmps82
    go_wp2_with (go_at_call 91; refine (H38.out _).mono ?_; rintro e w1 ⟨rfl, rfl⟩)
    go_quiet ((first | (go_at_call 91; exact Calls.quiet_of_same (q38.out _)) | (go_at_call 23; exact Calls.quiet_of_same (q14.out _))))
    go_wp2_with fail
    refine (H39.out _).mono ?_
    rintro e w2 ⟨rv, rfl, hrec, hown, hb2⟩
    obtain ⟨ra, rc, hrv, _⟩ := hrec.shape
    subst hrv
    have X2 := hid (((Boxed.laid w (.cells #[.int .i64 0, .int .i64 0, .int .i64 0, .int .i64 0, .int .i64 0, .slice none 0 0] 50)).drewN nq).next hb2)
    have hw2 := X2.out.lt
    obtain ⟨c0, c1, c2, c3, c4, c5⟩ := six X2.out
    obtain ⟨f0, f1, f2, f3, f4, f5⟩ := six_frozen X2.out
    clear hb2 hrec
    go_wp2
    have Z2 := (X2.out.six (.int .i64 0) (.int .i64 0) (.int .i64 0) (.int .i64 0) (.int .i64 0) (.slice none 0 0)).next ((Below.refl _ _).alloc (Nat.le_refl _) (.cells #[.int .i64 b.base, .int .i64 b.epoch, .int .i64 b.pid, .int .i64 b.pidEpoch, .int .i64 b.seq, .slice ra b.recs.length rc] 50))
    obtain ⟨e0, e1, e2, e3, e4, e5⟩ := six Z2
    refine bodyPost_ret (v := .tuple #[.agg #[.int .i64 0, .int .i64 0, .int .i64 0, .int .i64 0, .int .i64 0, .slice none 0 0], .int .i64 0, .int .i64 4]) (by simp [results, Tryd.results82, go_sem, e0, e1, e2, e3, e4, e5]) rfl ⟨.slice none 0 0, by rw [HF.out]; rfl, by rw [HF.out]; exact recs_nil _, ?_, fun k hk => by cases hk⟩
    exact Z2.below
  | true =>
    have H18b : Hid (∀ (W : World) (a : Option Addr) (cap : Nat) (O : Obj), Recs W (.slice a b.recs.length cap) b.recs → Calls Tryd.prog 45 #[.agg #[.int .i64 b.base, .int .i64 b.epoch, .int .i64 b.pid, .int .i64 b.pidEpoch, .int .i64 b.seq, .slice a b.recs.length cap]] (W.alloc O) fun e w' => e = .returned (.int .i64 (rightL b)) ∧ Below (W.alloc O).heap.size (W.alloc O) w') := fun W a cap O h => H18.out _ a cap (h.under ((Below.refl _ _).alloc (Nat.le_refl _) _))
    by_cases hR : rightL b = 0
    · have HF : Hid (readBatchL l = (b, 8 + n, 0)) := by show _ = _; rw [HN2.out, if_neg (by simp [hR])]
      have HR := hid hR
      clear hR
      go_enter Tryd.func82, Tryd.ntmps82
      go_wp2_with (go_at_call 91; refine (H38.out _).mono ?_; rintro e w1 ⟨rfl, rfl⟩)
      go_quiet ((first | (go_at_call 91; exact Calls.quiet_of_same (q38.out _)) | (go_at_call 23; exact Calls.quiet_of_same (q14.out _))))
      go_wp2_with fail
      refine (H39.out _).mono ?_
      rintro e w2 ⟨rv, rfl, hrec, hown, hb2⟩
      obtain ⟨ra, rc, hrv, _⟩ := hrec.shape
      subst hrv
      have X2 := hid (((Boxed.laid w (.cells #[.int .i64 0, .int .i64 0, .int .i64 0, .int .i64 0, .int .i64 0, .slice none 0 0] 50)).drewN nq).next hb2)
      have hw2 := X2.out.lt
      have HREC := hid hrec
      have HOWN := hid hown
      clear hb2 hrec hown
      go_wp2_with fail
      refine (H18b.out _ _ _ _ HREC.out).mono ?_
      rintro e w3 ⟨rfl, hb3⟩
      rw [HR.out]
      have X3 := hid (X2.out.next (((Below.refl _ _).alloc (Nat.le_refl _) _).trans (hb3.mono (by simp))))
      have Y3 := hid ((Boxed.laid w2 (.cells #[.int .i64 b.base, .int .i64 b.epoch, .int .i64 b.pid, .int .i64 b.pidEpoch, .int .i64 b.seq, .slice ra b.recs.length rc] 50)).next hb3)
      have hw3 := Y3.out.lt
      obtain ⟨c0, c1, c2, c3, c4, c5⟩ := six X3.out
      obtain ⟨f0, f1, f2, f3, f4, f5⟩ := six_frozen X3.out
      obtain ⟨d0, d1, d2, d3, d4, d5⟩ := six Y3.out
      have HREC3 := hid (HREC.out.under Y3.out.below)
      clear hb3
      go_wp2
      refine bodyPost_ret (v := .tuple #[.agg #[.int .i64 b.base, .int .i64 b.epoch, .int .i64 b.pid, .int .i64 b.pidEpoch, .int .i64 b.seq, .slice ra b.recs.length rc], .int .i64 (8 + (n : Int)), .int .i64 0]) (by simp [results, Tryd.results82, go_sem, c0, c1, c2, c3, c4, c5]) rfl ⟨.slice ra b.recs.length rc, by rw [HF.out]; simp only [Int.natCast_add]; rfl, ?_, ?_, fun k hk => ?_⟩
      · rw [HF.out]
        refine HREC3.out.off (fun q hq => six_keep2 w3 w.heap.size q _ _ _ _ _ _ ?_) (by rw [six_size]; exact Nat.le_refl _)
        have h1 : (w.alloc (.cells #[.int .i64 0, .int .i64 0, .int .i64 0, .int .i64 0, .int .i64 0, .slice none 0 0] 50)).heap.size ≤ q := HOWN.out q hq
        simp at h1
        omega
      · exact six_below X3.out.below (Nat.le_refl _) _ _ _ _ _ _
      · have h1 : (w.alloc (.cells #[.int .i64 0, .int .i64 0, .int .i64 0, .int .i64 0, .int .i64 0, .slice none 0 0] 50)).heap.size ≤ k := HOWN.out k hk
        simp at h1
        omega
    · have HF : Hid (readBatchL l = (zeroBat, 0, 4)) := by show _ = _; rw [HN2.out, if_pos (.inr hR)]
      have hne : (rightL b != 0) = true := by simp [hR]
      clear hR
      go_enter Tryd.func82, Tryd.ntmps82
      go_wp2_with (go_at_call 91; refine (H38.out _).mono ?_; rintro e w1 ⟨rfl, rfl⟩)
      go_quiet ((first | (go_at_call 91; exact Calls.quiet_of_same (q38.out _)) | (go_at_call 23; exact Calls.quiet_of_same (q14.out _))))
      go_wp2_with fail
      refine (H39.out _).mono ?_
      rintro e w2 ⟨rv, rfl, hrec, hown, hb2⟩
      obtain ⟨ra, rc, hrv, _⟩ := hrec.shape
      subst hrv
      have X2 := hid (((Boxed.laid w (.cells #[.int .i64 0, .int .i64 0, .int .i64 0, .int .i64 0, .int .i64 0, .slice none 0 0] 50)).drewN nq).next hb2)
      have hw2 := X2.out.lt
      have HREC := hid hrec
      clear hb2 hrec
      go_wp2_with fail
      refine (H18b.out _ _ _ _ HREC.out).mono ?_
      rintro e w3 ⟨rfl, hb3⟩
      have X3 := hid (X2.out.next (((Below.refl _ _).alloc (Nat.le_refl _) _).trans (hb3.mono (by simp))))
      have hw3 := X3.out.lt
      obtain ⟨c0, c1, c2, c3, c4, c5⟩ := six X3.out
      obtain ⟨f0, f1, f2, f3, f4, f5⟩ := six_frozen X3.out
      clear hb3
      go_wp2
      refine bodyPost_ret (v := .tuple #[.agg #[.int .i64 0, .int .i64 0, .int .i64 0, .int .i64 0, .int .i64 0, .slice none 0 0], .int .i64 0, .int .i64 4]) (by simp [results, Tryd.results82, go_sem, c0, c1, c2, c3, c4, c5]) rfl ⟨.slice none 0 0, by rw [HF.out]; rfl, by rw [HF.out]; exact recs_nil _, ?_, fun k hk => by cases hk⟩
      exact six_below X3.out.below (Nat.le_refl _) _ _ _ _ _ _
end Go.Proofs.YtocdlaoklagdoaaDoor
