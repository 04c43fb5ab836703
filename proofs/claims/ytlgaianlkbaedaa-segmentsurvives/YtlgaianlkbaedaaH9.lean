/- ReadBatch of wire. -/
import Derived.Test.YtlgaianlkbaedaaH8
import Derived.Shelf.SlIter.Nil
import Derived.Shelf.SortM.Plain
import Derived.Shelf.SortM.SortNone
import Derived.Shelf.SlGeneric
import Derived.Ground.GgzProg
import Derived.Ground.SlgmProg
import Derived.Test.YtlgaianlkbaedaaProg
namespace Go.Proofs.Ytlgaianlkbaedaa
open Go.RowKit Go.Maps
set_option linter.unusedSimpArgs false
set_option linter.unusedVariables false
set_option maxRecDepth 100000

theorem recs_nil (w : World) : Recs w (.slice none 0 0) [] := ⟨⟨none, 0, rfl, .inl rfl⟩, by simp, by simp⟩
theorem Recs.off {w w' : World} {v : Value} {rs : List Rec} (h : Recs w v rs) (hk : ∀ q, v.ownBlock = some q → w'.heap[q]? = w.heap[q]?) (hs : w.heap.size ≤ w'.heap.size) : Recs w' v rs := by
  obtain ⟨a, cap, e, ha⟩ := h.shape
  refine ⟨⟨a, cap, e, ?_⟩, h.ok, h.len⟩
  rcases ha with ha | ⟨b, off, e2, hl, hc⟩
  · exact .inl ha
  · exact .inr ⟨b, off, e2, Nat.lt_of_lt_of_le hl hs, fun i hi => (hc i hi).under (hk b (by rw [e, e2]; rfl))⟩
theorem bodyS_ints (l : List UInt8) : (bodyS l).1.ints := ⟨numS_i64 _, numS_i64 _, numS_i64 _, numS_i64 _, numS_i64 _⟩
theorem extract_mid (l : List UInt8) (a n : Nat) : (strOf l).extract a (a + n) = strOf ((l.drop a).take n) := by
  rw [Lib.extract_eq, strOf_data, Nat.add_sub_cancel_left]
  rfl

theorem six_below {B : Nat} {w W : World} {b : Nat} (h : Below B w W) (hb : B ≤ b) (u0 u1 u2 u3 u4 u5 : Value) : Below B w ((((((W.setCell ⟨b, 0, none⟩ u0).setCell ⟨b, 1, none⟩ u1).setCell ⟨b, 2, none⟩ u2).setCell ⟨b, 3, none⟩ u3).setCell ⟨b, 4, none⟩ u4).setCell ⟨b, 5, none⟩ u5) :=
  (((((h.setCell hb _).setCell hb _).setCell hb _).setCell hb _).setCell hb _).setCell hb _

theorem Boxed.drewN {w W : World} {O : Obj} (h : Boxed w W O) (n : Nat) : Boxed w (W.drewN n) O := ⟨below_drewN h.below n, h.box⟩
theorem six_frozen {w W : World} {cs : Array Value} {T : TypeId} (h : Boxed w W (.cells cs T)) : W.frozen? ⟨w.heap.size, 0, none⟩ = false ∧ W.frozen? ⟨w.heap.size, 1, none⟩ = false ∧ W.frozen? ⟨w.heap.size, 2, none⟩ = false ∧ W.frozen? ⟨w.heap.size, 3, none⟩ = false ∧ W.frozen? ⟨w.heap.size, 4, none⟩ = false ∧ W.frozen? ⟨w.heap.size, 5, none⟩ = false :=
  ⟨frozen_blk h.box 0, frozen_blk h.box 1, frozen_blk h.box 2, frozen_blk h.box 3, frozen_blk h.box 4, frozen_blk h.box 5⟩

theorem set_box {W : World} {q : Nat} {cs : Array Value} {T : TypeId} {j : Nat} {u : Value} (h : W.heap[q]? = some (.cells cs T)) : (W.setCell ⟨q, j, none⟩ u).heap[q]? = some (.cells (cs.setIfInBounds j u) T) := by
  rw [setCell_eq_setRow W q j _ T (0, 0) _ h, setRow_heap W q _ _ T (0, 0) h]
theorem six_size (W : World) (b : Nat) (u0 u1 u2 u3 u4 u5 : Value) : ((((((W.setCell ⟨b, 0, none⟩ u0).setCell ⟨b, 1, none⟩ u1).setCell ⟨b, 2, none⟩ u2).setCell ⟨b, 3, none⟩ u3).setCell ⟨b, 4, none⟩ u4).setCell ⟨b, 5, none⟩ u5).heap.size = W.heap.size := by simp [World.setCell]
theorem Boxed.six {w W : World} {a0 a1 a2 a3 a4 a5 : Value} {T : TypeId} (h : Boxed w W (.cells #[a0, a1, a2, a3, a4, a5] T)) (u0 u1 u2 u3 u4 u5 : Value) : Boxed w ((((((W.setCell ⟨w.heap.size, 0, none⟩ u0).setCell ⟨w.heap.size, 1, none⟩ u1).setCell ⟨w.heap.size, 2, none⟩ u2).setCell ⟨w.heap.size, 3, none⟩ u3).setCell ⟨w.heap.size, 4, none⟩ u4).setCell ⟨w.heap.size, 5, none⟩ u5) (.cells #[u0, u1, u2, u3, u4, u5] T) := by
  refine ⟨six_below h.below (Nat.le_refl _) _ _ _ _ _ _, ?_⟩
  exact set_box (j := 5) (u := u5) (set_box (j := 4) (u := u4) (set_box (j := 3) (u := u3) (set_box (j := 2) (u := u2) (set_box (j := 1) (u := u1) (set_box (j := 0) (u := u0) h.box)))))
theorem six_keep2 (wr : World) (b q : Nat) (u0 u1 u2 u3 u4 u5 : Value) (h : q ≠ b) : ((((((wr.setCell ⟨b, 0, none⟩ u0).setCell ⟨b, 1, none⟩ u1).setCell ⟨b, 2, none⟩ u2).setCell ⟨b, 3, none⟩ u3).setCell ⟨b, 4, none⟩ u4).setCell ⟨b, 5, none⟩ u5).heap[q]? = wr.heap[q]? := by
  have hs : ∀ (W : World) (j : Nat) (u : Value), (W.setCell ⟨b, j, none⟩ u).heap[q]? = W.heap[q]? := fun W j u => Below.heap_setCell W ⟨b, j, none⟩ u q h
  rw [hs, hs, hs, hs, hs, hs]

set_option maxHeartbeats 700000 in
theorem readBatch_any {w : World} (l : List UInt8) (hl : l.length ≤ maxLen) :
    Calls Try.prog 58 #[.string (strOf l)] w fun e w' => ∃ rv, e = .returned (.tuple #[.agg #[.int .i64 (readBatchL l).1.base, .int .i64 (readBatchL l).1.epoch, .int .i64 (readBatchL l).1.pid, .int .i64 (readBatchL l).1.pidEpoch, .int .i64 (readBatchL l).1.seq, rv], .int .i64 ((readBatchL l).2.1 : Nat), .int .i64 (readBatchL l).2.2]) ∧ Recs w' rv (readBatchL l).1.recs ∧ Below w.heap.size w w' ∧ ∀ k, rv.ownBlock = some k → w.heap.size ≤ k := by
  have hsz := strOf_size l
  have hlm := hl
  unfold maxLen at hlm
  by_cases h8 : l.length < 8
  · have h8' : (l.length : Int) < 8 := by omega
    have HF : Hid (readBatchL l = (zeroBat, 0, 5)) := by show _ = _; unfold readBatchL; rw [if_pos h8]
    go_enter Try.func58, Try.ntmps58
    go_wp2
    refine bodyPost_ret (v := .tuple #[.agg #[.int .i64 0, .int .i64 0, .int .i64 0, .int .i64 0, .int .i64 0, .slice none 0 0], .int .i64 0, .int .i64 5]) (by simp [results, Try.results58, go_sem]) rfl ⟨.slice none 0 0, by rw [HF.out]; rfl, by rw [HF.out]; exact recs_nil _, ?_, fun k hk => by cases hk⟩
    exact (Below.refl _ _).alloc (Nat.le_refl _) _
  have h8' : ¬ (l.length : Int) < 8 := by omega
  have hn := fourN_lt l
  have H38 := hid (fun W => readFour_any (strOf l) W (by rw [hsz]; omega) (by rw [hsz]; exact hl))
  rw [strOf_data] at H38
  have HN : Hid (readBatchL l = if 4096 < 8 + fourN l then (zeroBat, 0, 2)
      else if l.length < 8 + fourN l then (zeroBat, 0, 5)
      else if fourN (l.drop 4) ≠ crcL ((l.drop 8).take (fourN l)) then (zeroBat, 0, 6)
      else if (bodyS ((l.drop 8).take (fourN l))).2 = false ∨ rightL (bodyS ((l.drop 8).take (fourN l))).1 ≠ 0 then (zeroBat, 0, 4)
      else ((bodyS ((l.drop 8).take (fourN l))).1, 8 + fourN l, 0)) := by show _ = _; unfold readBatchL; rw [if_neg h8]
  have hx4 := extract_drop l 4
  have hxm := extract_mid l 8 (fourN l)
  have hd4 : (l.drop 4).length = l.length - 4 := by simp
  have hN4 := fourN_lt (l.drop 4)
  have H38b := hid (fun W => readFour_any (strOf (l.drop 4)) W (by rw [strOf_size, hd4]; omega) (by rw [strOf_size, hd4]; unfold maxLen; omega))
  rw [strOf_data] at H38b
  generalize fourN l = n at *
  by_cases hb : 4096 < 8 + n
  · have hb' : 4096 < 8 + (n : Int) := by omega
    have HF : Hid (readBatchL l = (zeroBat, 0, 2)) := by show _ = _; rw [HN.out, if_pos hb]
    clear hx4 hxm hd4 hN4
    go_enter Try.func58, Try.ntmps58
    go_wp2_with (go_at_call 71; refine (H38.out _).mono ?_; rintro e w1 ⟨rfl, rfl⟩)
    refine bodyPost_ret (v := .tuple #[.agg #[.int .i64 0, .int .i64 0, .int .i64 0, .int .i64 0, .int .i64 0, .slice none 0 0], .int .i64 0, .int .i64 2]) (by simp [results, Try.results58, go_sem]) rfl ⟨.slice none 0 0, by rw [HF.out]; rfl, by rw [HF.out]; exact recs_nil _, ?_, fun k hk => by cases hk⟩
    exact (Below.refl _ _).alloc (Nat.le_refl _) _
  have hb' : ¬ 4096 < 8 + (n : Int) := by omega
  by_cases hs : l.length < 8 + n
  · have hs' : (l.length : Int) < 8 + (n : Int) := by omega
    have HF : Hid (readBatchL l = (zeroBat, 0, 5)) := by show _ = _; rw [HN.out, if_neg hb, if_pos hs]
    clear hx4 hxm hd4 hN4
    go_enter Try.func58, Try.ntmps58
    go_wp2_with (go_at_call 71; refine (H38.out _).mono ?_; rintro e w1 ⟨rfl, rfl⟩)
    refine bodyPost_ret (v := .tuple #[.agg #[.int .i64 0, .int .i64 0, .int .i64 0, .int .i64 0, .int .i64 0, .slice none 0 0], .int .i64 0, .int .i64 5]) (by simp [results, Try.results58, go_sem]) rfl ⟨.slice none 0 0, by rw [HF.out]; rfl, by rw [HF.out]; exact recs_nil _, ?_, fun k hk => by cases hk⟩
    exact (Below.refl _ _).alloc (Nat.le_refl _) _
  have hs' : ¬ (l.length : Int) < 8 + (n : Int) := by omega
  have hml : ((l.drop 8).take n).length = n := by simp; omega
  rw [if_neg hb, if_neg hs] at HN
  generalize (l.drop 8).take n = m at *
  have H14 := hid (fun W => crc_any (strOf m) W (by rw [strOf_size, hml]; unfold maxLen; omega))
  rw [strOf_data] at H14
  have hC := crcL_lt m
  have H39 := hid (fun W => readBody_any (w := W) m (by rw [hml]; unfold maxLen; omega))
  have hI := hid (bodyS_ints m)
  generalize crcL m = C at *
  generalize fourN (l.drop 4) = S at *
  have q38 : Hid (∀ W : World, Calls Try.prog 71 #[.string (strOf (l.drop 4))] W fun e w' => e = .returned (.int .i64 (S : Int)) ∧ w' = W) := fun W => (H38b.out W).mono fun e w' ⟨h1, h2⟩ => ⟨h1, h2.symm⟩
  have q14 : Hid (∀ W : World, Calls Try.prog 54 #[.string (strOf m)] W fun e w' => e = .returned (.int .i64 (C : Int)) ∧ w' = W) := fun W => (H14.out W).mono fun e w' ⟨h1, h2⟩ => ⟨h1, h2.symm⟩
  have i1 : (4 : Int) ≤ (l.length : Int) := by omega
  have i2 : (8 : Int) ≤ 8 + (n : Int) := by omega
  have i3 : 8 + (n : Int) ≤ (l.length : Int) := by omega
  clear H38b H14 hd4
  by_cases hS : S ≠ C
  · have hS' : ((S : Int) != (C : Int)) = true := by simp; omega
    have HF : Hid (readBatchL l = (zeroBat, 0, 6)) := by show _ = _; rw [HN.out, if_pos hS]
    go_enter Try.func58, Try.ntmps58
    go_wp2_with (go_at_call 71; refine (H38.out _).mono ?_; rintro e w1 ⟨rfl, rfl⟩)
    go_quiet ((first | (go_at_call 71; exact Calls.quiet_of_same (q38.out _)) | (go_at_call 54; exact Calls.quiet_of_same (q14.out _))))
    go_wp2
    refine bodyPost_ret (v := .tuple #[.agg #[.int .i64 0, .int .i64 0, .int .i64 0, .int .i64 0, .int .i64 0, .slice none 0 0], .int .i64 0, .int .i64 6]) (by simp [results, Try.results58, go_sem]) rfl ⟨.slice none 0 0, by rw [HF.out]; rfl, by rw [HF.out]; exact recs_nil _, ?_, fun k hk => by cases hk⟩
    exact six_below (below_drewN ((Below.refl _ _).alloc (Nat.le_refl _) _) _) (Nat.le_refl _) _ _ _ _ _ _
  have hS' : ((S : Int) != (C : Int)) = false := by simp; omega
  have HN2 : Hid (readBatchL l = if (bodyS m).2 = false ∨ rightL (bodyS m).1 ≠ 0 then (zeroBat, 0, 4) else ((bodyS m).1, 8 + n, 0)) := by show _ = _; rw [HN.out, if_neg hS]
  have H18 : Hid (∀ (W : World) (a : Option Addr) (cap : Nat), Recs W (.slice a (bodyS m).1.recs.length cap) (bodyS m).1.recs → Calls Try.prog 51 #[.agg #[.int .i64 (bodyS m).1.base, .int .i64 (bodyS m).1.epoch, .int .i64 (bodyS m).1.pid, .int .i64 (bodyS m).1.pidEpoch, .int .i64 (bodyS m).1.seq, .slice a (bodyS m).1.recs.length cap]] W fun e w' => e = .returned (.int .i64 (rightL (bodyS m).1)) ∧ Below W.heap.size W w') := fun W a cap h => right_any (bodyS m).1 a cap h hI.out
  clear hS HN hI
  generalize bodyS m = B at *
  obtain ⟨b, ok⟩ := B
  simp only at *
  cases ok with
  | false =>
    have HF : Hid (readBatchL l = (zeroBat, 0, 4)) := by show _ = _; rw [HN2.out, if_pos (.inl rfl)]
    go_enter Try.func58, Try.ntmps58
    go_wp2_with (go_at_call 71; refine (H38.out _).mono ?_; rintro e w1 ⟨rfl, rfl⟩)
    go_quiet ((first | (go_at_call 71; exact Calls.quiet_of_same (q38.out _)) | (go_at_call 54; exact Calls.quiet_of_same (q14.out _))))
    go_wp2_with fail
    refine (H39.out _).mono ?_
    rintro e w2 ⟨rv, rfl, hrec, hown, hb2⟩
    obtain ⟨ra, rc, hrv, _⟩ := hrec.shape
    subst hrv
    have X2 := hid (((Boxed.laid w (.cells #[.int .i64 0, .int .i64 0, .int .i64 0, .int .i64 0, .int .i64 0, .slice none 0 0] 34)).drewN nq).next hb2)
    have hw2 := X2.out.lt
    obtain ⟨c0, c1, c2, c3, c4, c5⟩ := six X2.out
    obtain ⟨f0, f1, f2, f3, f4, f5⟩ := six_frozen X2.out
    clear hb2 hrec
    go_wp2
    have Z2 := (X2.out.six (.int .i64 0) (.int .i64 0) (.int .i64 0) (.int .i64 0) (.int .i64 0) (.slice none 0 0)).next ((Below.refl _ _).alloc (Nat.le_refl _) (.cells #[.int .i64 b.base, .int .i64 b.epoch, .int .i64 b.pid, .int .i64 b.pidEpoch, .int .i64 b.seq, .slice ra b.recs.length rc] 34))
    obtain ⟨e0, e1, e2, e3, e4, e5⟩ := six Z2
    refine bodyPost_ret (v := .tuple #[.agg #[.int .i64 0, .int .i64 0, .int .i64 0, .int .i64 0, .int .i64 0, .slice none 0 0], .int .i64 0, .int .i64 4]) (by simp [results, Try.results58, go_sem, e0, e1, e2, e3, e4, e5]) rfl ⟨.slice none 0 0, by rw [HF.out]; rfl, by rw [HF.out]; exact recs_nil _, ?_, fun k hk => by cases hk⟩
    exact Z2.below
  | true =>
    have H18b : Hid (∀ (W : World) (a : Option Addr) (cap : Nat) (O : Obj), Recs W (.slice a b.recs.length cap) b.recs → Calls Try.prog 51 #[.agg #[.int .i64 b.base, .int .i64 b.epoch, .int .i64 b.pid, .int .i64 b.pidEpoch, .int .i64 b.seq, .slice a b.recs.length cap]] (W.alloc O) fun e w' => e = .returned (.int .i64 (rightL b)) ∧ Below (W.alloc O).heap.size (W.alloc O) w') := fun W a cap O h => H18.out _ a cap (h.under ((Below.refl _ _).alloc (Nat.le_refl _) _))
    by_cases hR : rightL b = 0
    · have HF : Hid (readBatchL l = (b, 8 + n, 0)) := by show _ = _; rw [HN2.out, if_neg (by simp [hR])]
      have HR := hid hR
      clear hR
      go_enter Try.func58, Try.ntmps58
      go_wp2_with (go_at_call 71; refine (H38.out _).mono ?_; rintro e w1 ⟨rfl, rfl⟩)
      go_quiet ((first | (go_at_call 71; exact Calls.quiet_of_same (q38.out _)) | (go_at_call 54; exact Calls.quiet_of_same (q14.out _))))
      go_wp2_with fail
      refine (H39.out _).mono ?_
      rintro e w2 ⟨rv, rfl, hrec, hown, hb2⟩
      obtain ⟨ra, rc, hrv, _⟩ := hrec.shape
      subst hrv
      have X2 := hid (((Boxed.laid w (.cells #[.int .i64 0, .int .i64 0, .int .i64 0, .int .i64 0, .int .i64 0, .slice none 0 0] 34)).drewN nq).next hb2)
      have hw2 := X2.out.lt
      have HREC := hid hrec
      have HOWN := hid hown
      clear hb2 hrec hown
      go_wp2_with fail
      refine (H18b.out _ _ _ _ HREC.out).mono ?_
      rintro e w3 ⟨rfl, hb3⟩
      rw [HR.out]
      have X3 := hid (X2.out.next (((Below.refl _ _).alloc (Nat.le_refl _) _).trans (hb3.mono (by simp))))
      have Y3 := hid ((Boxed.laid w2 (.cells #[.int .i64 b.base, .int .i64 b.epoch, .int .i64 b.pid, .int .i64 b.pidEpoch, .int .i64 b.seq, .slice ra b.recs.length rc] 34)).next hb3)
      have hw3 := Y3.out.lt
      obtain ⟨c0, c1, c2, c3, c4, c5⟩ := six X3.out
      obtain ⟨f0, f1, f2, f3, f4, f5⟩ := six_frozen X3.out
      obtain ⟨d0, d1, d2, d3, d4, d5⟩ := six Y3.out
      have HREC3 := hid (HREC.out.under Y3.out.below)
      clear hb3
      go_wp2
      refine bodyPost_ret (v := .tuple #[.agg #[.int .i64 b.base, .int .i64 b.epoch, .int .i64 b.pid, .int .i64 b.pidEpoch, .int .i64 b.seq, .slice ra b.recs.length rc], .int .i64 (8 + (n : Int)), .int .i64 0]) (by simp [results, Try.results58, go_sem, c0, c1, c2, c3, c4, c5]) rfl ⟨.slice ra b.recs.length rc, by rw [HF.out]; simp only [Int.natCast_add]; rfl, ?_, ?_, fun k hk => ?_⟩
      · rw [HF.out]
        refine HREC3.out.off (fun q hq => six_keep2 w3 w.heap.size q _ _ _ _ _ _ ?_) (by rw [six_size]; exact Nat.le_refl _)
        have h1 : (w.alloc (.cells #[.int .i64 0, .int .i64 0, .int .i64 0, .int .i64 0, .int .i64 0, .slice none 0 0] 34)).heap.size ≤ q := HOWN.out q hq
        simp at h1
        omega
      · exact six_below X3.out.below (Nat.le_refl _) _ _ _ _ _ _
      · have h1 : (w.alloc (.cells #[.int .i64 0, .int .i64 0, .int .i64 0, .int .i64 0, .int .i64 0, .slice none 0 0] 34)).heap.size ≤ k := HOWN.out k hk
        simp at h1
        omega
    · have HF : Hid (readBatchL l = (zeroBat, 0, 4)) := by show _ = _; rw [HN2.out, if_pos (.inr hR)]
      have hne : (rightL b != 0) = true := by simp [hR]
      clear hR
      go_enter Try.func58, Try.ntmps58
      go_wp2_with (go_at_call 71; refine (H38.out _).mono ?_; rintro e w1 ⟨rfl, rfl⟩)
      go_quiet ((first | (go_at_call 71; exact Calls.quiet_of_same (q38.out _)) | (go_at_call 54; exact Calls.quiet_of_same (q14.out _))))
      go_wp2_with fail
      refine (H39.out _).mono ?_
      rintro e w2 ⟨rv, rfl, hrec, hown, hb2⟩
      obtain ⟨ra, rc, hrv, _⟩ := hrec.shape
      subst hrv
      have X2 := hid (((Boxed.laid w (.cells #[.int .i64 0, .int .i64 0, .int .i64 0, .int .i64 0, .int .i64 0, .slice none 0 0] 34)).drewN nq).next hb2)
      have hw2 := X2.out.lt
      have HREC := hid hrec
      clear hb2 hrec
      go_wp2_with fail
      refine (H18b.out _ _ _ _ HREC.out).mono ?_
      rintro e w3 ⟨rfl, hb3⟩
      have X3 := hid (X2.out.next (((Below.refl _ _).alloc (Nat.le_refl _) _).trans (hb3.mono (by simp))))
      have hw3 := X3.out.lt
      obtain ⟨c0, c1, c2, c3, c4, c5⟩ := six X3.out
      obtain ⟨f0, f1, f2, f3, f4, f5⟩ := six_frozen X3.out
      clear hb3
      go_wp2
      refine bodyPost_ret (v := .tuple #[.agg #[.int .i64 0, .int .i64 0, .int .i64 0, .int .i64 0, .int .i64 0, .slice none 0 0], .int .i64 0, .int .i64 4]) (by simp [results, Try.results58, go_sem, c0, c1, c2, c3, c4, c5]) rfl ⟨.slice none 0 0, by rw [HF.out]; rfl, by rw [HF.out]; exact recs_nil _, ?_, fun k hk => by cases hk⟩
      exact six_below X3.out.below (Nat.le_refl _) _ _ _ _ _ _
end Go.Proofs.Ytlgaianlkbaedaa

/- The library's contracts on the sorted keys of a map, laid at this program. -/
namespace Go.Proofs
open Go.RowKit Go.Maps Go.Sort Go.Shelf

def Try.keys47_ren : Go.Shelf.Ren := ⟨fun | 7 => 56 | 10 => 70 | n => n, fun | 23 => 56 | 26 => 9 | 3 => 77 | 28 => 97 | 0 => 0 | 27 => 96 | 33 => 102 | 4 => 4 | n => n, fun | n => n⟩
theorem Try.keys47 : Go.Proofs.SlLaysZ.n7 Try.prog Try.keys47_ren := {
  mixed := by kernel_rfl
  f7 := ⟨Try.f56.name, by decide, Try.func56.trans (congrArg some (by kernel_rfl))⟩
  f10 := ⟨Try.f70.name, by decide, Try.func70.trans (congrArg some (by kernel_rfl))⟩
  t0 := Try.underlying0
  a0 := Try.isAgg0
  z0 := Try.sizeOf0
  v0 := Try.zeroValue0
  t4 := Try.underlying4
  a4 := Try.isAgg4
  z4 := Try.sizeOf4
  v4 := Try.zeroValue4
  t23 := Try.underlying56
  a23 := Try.isAgg56
  z23 := Try.sizeOf56
  v23 := Try.zeroValue56
  t26 := Try.underlying9
  a26 := Try.isAgg9
  z26 := Try.sizeOf9
  v26 := Try.zeroValue9
  t27 := Try.underlying96
  a27 := Try.isAgg96
  z27 := Try.sizeOf96
  v27 := Try.zeroValue96
  t28 := Try.underlying97
  a28 := Try.isAgg97
  z28 := Try.sizeOf97
  v28 := Try.zeroValue97
  t33 := Try.underlying102
  a33 := Try.isAgg102
  z33 := Try.sizeOf102
  v33 := Try.zeroValue102 }
def Try.sorted46_ren : Go.Shelf.Ren := ⟨fun | 6 => 55 | 8 => 68 | 9 => 69 | 11 => 75 | 13 => 77 | 12 => 76 | 23 => 91 | 24 => 92 | 14 => 82 | 15 => 83 | 16 => 84 | 17 => 85 | 18 => 86 | 19 => 87 | 20 => 88 | 21 => 89 | 22 => 90 | 25 => 96 | 26 => 97 | 27 => 98 | 28 => 99 | 29 => 100 | 30 => 101 | 31 => 104 | n => n, fun | 26 => 9 | 28 => 97 | 24 => 73 | 0 => 0 | 3 => 3 | 37 => 101 | 48 => 110 | 50 => 115 | 4 => 4 | 40 => 127 | 39 => 126 | 45 => 132 | 5 => 5 | 9 => 9 | 51 => 137 | 55 => 141 | 57 => 146 | 58 => 147 | 33 => 102 | n => n, fun | n => n⟩
theorem Try.sorted46 : Go.Proofs.SlLaysZ.n6 Try.prog Try.sorted46_ren := {
  mixed := by kernel_rfl
  f6 := ⟨Try.f55.name, by decide, Try.func55.trans (congrArg some (by kernel_rfl))⟩
  f8 := ⟨Try.f68.name, by decide, Try.func68.trans (congrArg some (by kernel_rfl))⟩
  f11 := ⟨Try.f75.name, by decide, Try.func75.trans (congrArg some (by kernel_rfl))⟩
  t0 := Try.underlying0
  a0 := Try.isAgg0
  z0 := Try.sizeOf0
  v0 := Try.zeroValue0
  t24 := Try.underlying73
  a24 := Try.isAgg73
  z24 := Try.sizeOf73
  v24 := Try.zeroValue73
  t26 := Try.underlying9
  a26 := Try.isAgg9
  z26 := Try.sizeOf9
  v26 := Try.zeroValue9
  t28 := Try.underlying97
  a28 := Try.isAgg97
  z28 := Try.sizeOf97
  v28 := Try.zeroValue97
  i26 := by kernel_rfl }
def Try.sort55_ren : Go.Shelf.Ren := ⟨fun | 6 => 69 | 8 => 77 | 9 => 76 | 19 => 91 | 20 => 92 | 21 => 82 | 22 => 83 | 23 => 84 | 24 => 85 | 25 => 86 | 26 => 87 | 27 => 88 | 28 => 89 | 29 => 90 | 36 => 96 | 31 => 97 | 32 => 98 | 37 => 99 | 38 => 100 | 39 => 101 | 41 => 104 | n => n, fun | 27 => 73 | 29 => 9 | 3 => 3 | 32 => 101 | 26 => 73 | 0 => 0 | 44 => 110 | 46 => 115 | 4 => 4 | 36 => 127 | 35 => 126 | 41 => 132 | 5 => 5 | 9 => 9 | 53 => 137 | 57 => 141 | 63 => 146 | 64 => 147 | n => n, fun | n => n⟩
theorem Try.sort55 : Go.Proofs.SlLaysM.n6 Try.prog Try.sort55_ren := {
  mixed := by kernel_rfl
  f6 := ⟨Try.f69.name, by decide, Try.func69.trans (congrArg some (by kernel_rfl))⟩
  f8 := Try.func77.trans (congrArg some (by kernel_rfl))
  f9 := ⟨Try.f76.name, by decide, Try.func76.trans (congrArg some (by kernel_rfl))⟩
  f19 := Try.func91.trans (congrArg some (by kernel_rfl))
  f20 := Try.func92.trans (congrArg some (by kernel_rfl))
  f21 := ⟨Try.f82.name, by decide, Try.func82.trans (congrArg some (by kernel_rfl))⟩
  f22 := ⟨Try.f83.name, by decide, Try.func83.trans (congrArg some (by kernel_rfl))⟩
  f23 := ⟨Try.f84.name, by decide, Try.func84.trans (congrArg some (by kernel_rfl))⟩
  f24 := ⟨Try.f85.name, by decide, Try.func85.trans (congrArg some (by kernel_rfl))⟩
  f25 := ⟨Try.f86.name, by decide, Try.func86.trans (congrArg some (by kernel_rfl))⟩
  f26 := ⟨Try.f87.name, by decide, Try.func87.trans (congrArg some (by kernel_rfl))⟩
  f27 := ⟨Try.f88.name, by decide, Try.func88.trans (congrArg some (by kernel_rfl))⟩
  f28 := ⟨Try.f89.name, by decide, Try.func89.trans (congrArg some (by kernel_rfl))⟩
  f29 := ⟨Try.f90.name, by decide, Try.func90.trans (congrArg some (by kernel_rfl))⟩
  f31 := Try.func97.trans (congrArg some (by kernel_rfl))
  f32 := Try.func98.trans (congrArg some (by kernel_rfl))
  f36 := ⟨Try.f96.name, by decide, Try.func96.trans (congrArg some (by kernel_rfl))⟩
  f37 := ⟨Try.f99.name, by decide, Try.func99.trans (congrArg some (by kernel_rfl))⟩
  f38 := ⟨Try.f100.name, by decide, Try.func100.trans (congrArg some (by kernel_rfl))⟩
  f39 := ⟨Try.f101.name, by decide, Try.func101.trans (congrArg some (by kernel_rfl))⟩
  f41 := ⟨Try.f104.name, by decide, Try.func104.trans (congrArg some (by kernel_rfl))⟩
  t0 := Try.underlying0
  a0 := Try.isAgg0
  z0 := Try.sizeOf0
  v0 := Try.zeroValue0
  t3 := Try.underlying3
  a3 := Try.isAgg3
  z3 := Try.sizeOf3
  v3 := Try.zeroValue3
  t4 := Try.underlying4
  a4 := Try.isAgg4
  z4 := Try.sizeOf4
  v4 := Try.zeroValue4
  t5 := Try.underlying5
  a5 := Try.isAgg5
  z5 := Try.sizeOf5
  v5 := Try.zeroValue5
  t9 := Try.underlying9
  a9 := Try.isAgg9
  z9 := Try.sizeOf9
  v9 := Try.zeroValue9
  t26 := Try.underlying73
  a26 := Try.isAgg73
  z26 := Try.sizeOf73
  v26 := Try.zeroValue73
  t27 := Try.underlying73
  a27 := Try.isAgg73
  z27 := Try.sizeOf73
  v27 := Try.zeroValue73
  t29 := Try.underlying9
  a29 := Try.isAgg9
  z29 := Try.sizeOf9
  v29 := Try.zeroValue9
  t32 := Try.underlying101
  a32 := Try.isAgg101
  z32 := Try.sizeOf101
  v32 := Try.zeroValue101
  t35 := Try.underlying126
  a35 := Try.isAgg126
  z35 := Try.sizeOf126
  v35 := Try.zeroValue126
  t36 := Try.underlying127
  a36 := Try.isAgg127
  z36 := Try.sizeOf127
  v36 := Try.zeroValue127
  t41 := Try.underlying132
  a41 := Try.isAgg132
  z41 := Try.sizeOf132
  v41 := Try.zeroValue132
  t44 := Try.underlying110
  a44 := Try.isAgg110
  z44 := Try.sizeOf110
  v44 := Try.zeroValue110
  t46 := Try.underlying115
  a46 := Try.isAgg115
  z46 := Try.sizeOf115
  v46 := Try.zeroValue115
  t53 := Try.underlying137
  a53 := Try.isAgg137
  z53 := Try.sizeOf137
  v53 := Try.zeroValue137
  t57 := Try.underlying141
  a57 := Try.isAgg141
  z57 := Try.sizeOf141
  v57 := Try.zeroValue141
  t63 := Try.underlying146
  a63 := Try.isAgg146
  z63 := Try.sizeOf146
  v63 := Try.zeroValue146
  t64 := Try.underlying147
  a64 := Try.isAgg147
  z64 := Try.sizeOf147
  v64 := Try.zeroValue147 }

theorem Try.sorts46 (m : Nat) : AnyZ.SortsIn Try.prog Try.sorted46_ren Fence.wide m :=
  ⟨fun blk off cap ss W hH hblk hsz => callsIn_wide.2 (AnyM.slices_Sort_string Try.sort55 blk off cap ss W hH hblk hsz),
   fun p cap W => callsIn_wide.2 (AnyM.slices_Sort_string_none Try.sort55 p cap W)⟩

theorem Try.maps_Keys_47 (mb : Option Nat) (W : World) : CallsIn Fence.wide 5 Try.prog 56 #[.map mb] W fun e w' => e = .returned (.func (.func 70) #[] #[.pointer (some ⟨W.heap.size, 0, none⟩)]) ∧ w' = W.alloc (.cells #[.map mb] 56) :=
  AnyZ.keys_in Try.keys47 Fence.wide 5 trivial rfl mb W

set_option maxHeartbeats 1000000 in
theorem Try.slices_Sorted_keys_46_47 {H : Type} (b nn : Nat) (D0 : DataW H) (R : Value → Option (DataW H × List MemPlace)) (w : World) (hown : w.ownsMap Try.prog 9 R b nn D0) (hmax : Maps.size D0 ≤ maxLen) (hbytes : Maps.size D0 * 16 ≤ 140737488355328) :
    CallsIn Fence.wide 5 Try.prog 55 #[.func (.func 70) #[] #[.pointer (some ⟨w.heap.size, 0, none⟩)]] (w.alloc (.cells #[.map (some b)] 56)) fun e w' => ∃ (v : Value) (ss : List (List UInt8)), e = .returned v ∧ ss.Perm (strKeys D0) ∧
      w'.ownsRow (w.alloc (.cells #[.map (some b)] 56)).heap.size 9 1 v ss.length ((ss.mergeSort (fun x y => decide (x ≤ y))).map encStr) ∧ (v = .slice none 0 0 ↔ ss = []) ∧ Below (w.alloc (.cells #[.map (some b)] 56)).heap.size (w.alloc (.cells #[.map (some b)] 56)) w' := by
  have hbl := hown.lt
  have hseq : SeqGives Fence.wide 2 Try.prog 70 #[.pointer (some ⟨w.heap.size, 0, none⟩)] encStr (fun ss => ss.Perm (strKeys D0)) (Maps.size D0) (w.alloc (.cells #[.map (some b)] 56)) :=
    AnyZ.keys_gives (ρ := Try.keys47_ren) { Try.keys47 with } Fence.wide _ trivial rfl (by omega) w.heap.size b nn D0 _ (by simp) (by simp) (by
      obtain ⟨es, clock, hb, Ft, hs, hD⟩ := hown
      exact ⟨es, clock, (Below.heap_alloc _ _ b hbl).trans hb, Ft, hs, hD⟩)
  exact AnyZ.sorted_in Try.sorted46 Fence.wide 5 trivial trivial trivial trivial rfl (by omega) (Try.sorts46 _) (enters_of Try.func69 (by kernel_rfl) rfl) 70 #[.pointer (some ⟨w.heap.size, 0, none⟩)] trivial (enters_of Try.func70 (by kernel_rfl) rfl) _ _ hmax hbytes _ hseq

set_option maxHeartbeats 1000000 in
theorem Try.slices_Sorted_keys_nil_46_47 (w : World) :
    CallsIn Fence.wide 5 Try.prog 55 #[.func (.func 70) #[] #[.pointer (some ⟨w.heap.size, 0, none⟩)]] (w.alloc (.cells #[.map none] 56)) fun e w' => ∃ (v : Value) (ss : List (List UInt8)), e = .returned v ∧ ss = [] ∧
      w'.ownsRow (w.alloc (.cells #[.map none] 56)).heap.size 9 1 v ss.length ((ss.mergeSort (fun x y => decide (x ≤ y))).map encStr) ∧ (v = .slice none 0 0 ↔ ss = []) ∧ Below (w.alloc (.cells #[.map none] 56)).heap.size (w.alloc (.cells #[.map none] 56)) w' := by
  have hseq : SeqGives Fence.wide 2 Try.prog 70 #[.pointer (some ⟨w.heap.size, 0, none⟩)] encStr (fun ss : List (List UInt8) => ss = []) 0 (w.alloc (.cells #[.map none] 56)) :=
    AnyZ.keys_gives_nil (ρ := Try.keys47_ren) { Try.keys47 with } Fence.wide _ trivial rfl w.heap.size _ (by simp) (by simp)
  exact AnyZ.sorted_in Try.sorted46 Fence.wide 5 trivial trivial trivial trivial rfl (by omega) (Try.sorts46 _) (enters_of Try.func69 (by kernel_rfl) rfl) 70 #[.pointer (some ⟨w.heap.size, 0, none⟩)] trivial (enters_of Try.func70 (by kernel_rfl) rfl) _ 0 (Nat.zero_le _) (by omega) _ hseq

end Go.Proofs

