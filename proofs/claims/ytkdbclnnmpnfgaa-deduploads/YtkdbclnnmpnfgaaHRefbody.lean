/- The document's body of a batch. -/
import Derived.Test.YtkdbclnnmpnfgaaHWr
namespace Go.Proofs.Ytkdbclnnmpnfgaa
open Go.RowKit Go.Maps
set_option linter.unusedSimpArgs false
set_option linter.unusedVariables false
set_option maxRecDepth 100000

theorem sfit (l m : List UInt8) (s : ByteArray) (hs : s = strOf l) (h : l.length + m.length ≤ 1000000000000) : ∃ S : ByteArray, S = strOf (l ++ m) ∧ (¬ 9223372036854775807 < s.size + (strOf m).size) ∧ s ++ strOf m = S := by
  subst hs
  refine ⟨_, rfl, ?_, strOf_append l m⟩
  rw [strOf_size, strOf_size]; omega
theorem three {w W : World} {a0 a1 a2 : Value} {T : TypeId} (h : Boxed w W (.cells #[a0, a1, a2] T)) : W.cell? ⟨w.heap.size, 0, none⟩ = some a0 ∧ W.cell? ⟨w.heap.size, 1, none⟩ = some a1 ∧ W.cell? ⟨w.heap.size, 2, none⟩ = some a2 := ⟨cell_blk h.box 0 a0 rfl, cell_blk h.box 1 a1 rfl, cell_blk h.box 2 a2 rfl⟩
theorem keep_three {w W W' : World} {a0 a1 a2 : Value} {T : TypeId} (h : Boxed w W (.cells #[a0, a1, a2] T)) (hb : Below W.heap.size W W') : Boxed w W' (.cells #[a0, a1, a2] T) := h.next hb
theorem keep_six {w W W' : World} {a0 a1 a2 a3 a4 a5 : Value} {T : TypeId} (h : Boxed w W (.cells #[a0, a1, a2, a3, a4, a5] T)) (hb : Below W.heap.size W W') : Boxed w W' (.cells #[a0, a1, a2, a3, a4, a5] T) := h.next hb

set_option maxHeartbeats 3200000 in
theorem rbody_any {w : World} (b : Bat) (a : Option Addr) (cap : Nat) (ha : RecsAt w a b.recs) (hi : b.ints) (hok : ∀ r ∈ b.recs, I64 r.time) (hn : b.recs.length ≤ 64) (ht : ∀ r ∈ b.recs, r.key.length ≤ 1000 ∧ r.val.length ≤ 1000) :
    Calls Try.prog 61 #[.agg #[.int .i64 b.base, .int .i64 b.epoch, .int .i64 b.pid, .int .i64 b.pidEpoch, .int .i64 b.seq, .slice a b.recs.length cap]] w fun e w' => e = .returned (.string (strOf (bodyL b))) ∧ Below w.heap.size w w' := by
  have H13 := hid (fun n W h => rint_any n W h)
  have q0 := hid hi.h0
  have q1 := hid hi.h1
  have q2 := hid hi.h2
  have q3 := hid hi.h3
  have q4 := hid hi.h4
  have q5 : Hid (I64 (b.recs.length : Int)) := ⟨by omega, by omega⟩
  have z0 := (intL_length b.base).2
  have z1 := (intL_length b.epoch).2
  have z2 := (intL_length b.pid).2
  have z3 := (intL_length b.pidEpoch).2
  have z4 := (intL_length b.seq).2
  have z5 := (intL_length (b.recs.length : Int)).2
  obtain ⟨S1, h1, t1, a1⟩ := sfit (intL b.base) (intL b.epoch) _ rfl (by first | omega | (simp only [List.length_append]; omega))
  obtain ⟨S2, h2, t2, a2⟩ := sfit (intL b.base ++ intL b.epoch) (intL b.pid) _ h1 (by first | omega | (simp only [List.length_append]; omega))
  obtain ⟨S3, h3, t3, a3⟩ := sfit (intL b.base ++ intL b.epoch ++ intL b.pid) (intL b.pidEpoch) _ h2 (by first | omega | (simp only [List.length_append]; omega))
  obtain ⟨S4, h4, t4, a4⟩ := sfit (intL b.base ++ intL b.epoch ++ intL b.pid ++ intL b.pidEpoch) (intL b.seq) _ h3 (by first | omega | (simp only [List.length_append]; omega))
  obtain ⟨S5, h5, t5, a5⟩ := sfit (intL b.base ++ intL b.epoch ++ intL b.pid ++ intL b.pidEpoch ++ intL b.seq) (intL (b.recs.length : Int)) _ h4 (by first | omega | (simp only [List.length_append]; omega))
  have HS5 := hid h5
  clear h1 h2 h3 h4 h5
  have hnl : (b.recs.length : Int) ≤ 64 := by omega
  have X0 := hid (Boxed.laid w (.cells #[.int .i64 b.base, .int .i64 b.epoch, .int .i64 b.pid, .int .i64 b.pidEpoch, .int .i64 b.seq, .slice a b.recs.length cap] 33))
  go_enter Try.func61, Try.ntmps61
  go_wp2
  obtain ⟨W, hW⟩ : ∃ W, W = w.alloc (.cells #[.int .i64 b.base, .int .i64 b.epoch, .int .i64 b.pid, .int .i64 b.pidEpoch, .int .i64 b.seq, .slice a b.recs.length cap] 33) := ⟨_, rfl⟩
  rw [← hW] at X0 ⊢
  clear hW
  obtain ⟨c0, c1, c2, c3, c4, c5⟩ := six X0.out
  have X0d := hid (X0.out.drewN 1)
  have hX : Hid (Boxed w W.drew (.cells #[.int .i64 b.base, .int .i64 b.epoch, .int .i64 b.pid, .int .i64 b.pidEpoch, .int .i64 b.seq, .slice a b.recs.length cap] 33)) := X0d
  go_region_held3 (fun w' => w'.cell? ⟨w.heap.size, 0, none⟩ = some (.int .i64 b.base) ∧ w'.cell? ⟨w.heap.size, 1, none⟩ = some (.int .i64 b.epoch) ∧ w'.cell? ⟨w.heap.size, 2, none⟩ = some (.int .i64 b.pid) ∧ w'.cell? ⟨w.heap.size, 3, none⟩ = some (.int .i64 b.pidEpoch) ∧ w'.cell? ⟨w.heap.size, 4, none⟩ = some (.int .i64 b.seq) ∧ w'.cell? ⟨w.heap.size, 5, none⟩ = some (.slice a b.recs.length cap))
    (first | exact six hY.out | (refine ⟨?_, ?_, ?_, ?_, ?_, ?_⟩ <;> assumption) | go_keep)
    (first
    | (go_at_call 52; refine (H13.out _ _ (by first | exact q0.out | exact q1.out | exact q2.out | exact q3.out | exact q4.out | exact q5.out)).mono ?_; rintro e w1 ⟨rfl, hb1⟩; have hY := hid (keep_six hX.out hb1); clear hb1 hX; have hX := hY)
    | fail)
  have H0 := hid hY.out
  have HE : Hid (bodyL b = intsL (numsOf b) ++ intL b.recs.length ++ recsL b.recs) := rfl
  have HS0 : Hid (S5 = strOf (intsL (numsOf b) ++ intL b.recs.length ++ recsL (b.recs.take 0))) := by
    show _ = _
    rw [HS5.out]
    simp [intsL, numsOf, recsL]
  have HSH := hid (body_short b hn ht)
  have HA := hid ha
  have HOK := hid hok
  have HT := hid ht
  clear hY hX X0d X0 c0 c1 c2 c3 c4 c5 HS5 t1 t2 t3 t4 t5 a1 a2 a3 a4 a5 z0 z1 z2 z3 z4 z5 q0 q1 q2 q3 q4 q5 hok ht ha hi
  go_wp2
  go_loopg [3, 4] b.recs.length (fun kx s3 s4 wr => ∃ (k : Nat) (S : ByteArray), k ≤ b.recs.length ∧ b.recs.length - k ≤ kx ∧ s4 = .int .i64 k ∧ s3 = .string S ∧ Hid (S = strOf (intsL (numsOf b) ++ intL b.recs.length ++ recsL (b.recs.take k))) ∧ Hid (Boxed w wr (.cells #[.int .i64 b.base, .int .i64 b.epoch, .int .i64 b.pid, .int .i64 b.pidEpoch, .int .i64 b.seq, .slice a b.recs.length cap] 33)))
  case atStart => exact ⟨0, S5, by omega, by omega, rfl, rfl, HS0, H0⟩
  case round =>
    obtain ⟨k, S, hk, hkx, rfl, rfl, HK, HD⟩ := hrel
    clear H0 HS0
    obtain ⟨_, _, _, _, _, c5⟩ := six HD.out
    by_cases hlt : k < b.recs.length
    · have hlt' : (k : Int) < (b.recs.length : Int) := by omega
      obtain ⟨rb, off, rfl, hbl, x0, x1, x2⟩ := Recs.at (cap := cap) (HA.out.under HD.out.below) k hlt
      have p0 := hid (HOK.out _ (List.getElem_mem hlt))
      obtain ⟨hk1, hk2⟩ := HT.out _ (List.getElem_mem hlt)
      have HR := hid (recs_take b.recs k hlt)
      have hM := HSH.out k
      generalize b.recs[k] = R at *
      have p1 : Hid (I64 (R.key.length : Int)) := ⟨by omega, by omega⟩
      have p2 : Hid (I64 (R.val.length : Int)) := ⟨by omega, by omega⟩
      have y0 := (intL_length R.time).2
      have y1 := (intL_length (R.key.length : Int)).2
      have y2 := (intL_length (R.val.length : Int)).2
      have hsk := strOf_size R.key
      have hsv := strOf_size R.val
      obtain ⟨M, hMe⟩ : ∃ M, M = intsL (numsOf b) ++ intL b.recs.length ++ recsL (b.recs.take k) := ⟨_, rfl⟩
      have HM := hid hMe
      rw [← hMe] at hM HK
      clear hMe
      obtain ⟨U1, g1, t1, a1⟩ := sfit M (intL R.time) S HK.out (by omega)
      obtain ⟨U2, g2, t2, a2⟩ := sfit (M ++ intL R.time) (intL (R.key.length : Int)) U1 g1 (by simp only [List.length_append]; omega)
      obtain ⟨U3, g3, t3, a3⟩ := sfit (M ++ intL R.time ++ intL (R.key.length : Int)) R.key U2 g2 (by simp only [List.length_append]; omega)
      obtain ⟨U4, g4, t4, a4⟩ := sfit (M ++ intL R.time ++ intL (R.key.length : Int) ++ R.key) (intL (R.val.length : Int)) U3 g3 (by simp only [List.length_append]; omega)
      obtain ⟨U5, g5, t5, a5⟩ := sfit (M ++ intL R.time ++ intL (R.key.length : Int) ++ R.key ++ intL (R.val.length : Int)) R.val U4 g4 (by simp only [List.length_append]; omega)
      have HU : Hid (U5 = strOf (intsL (numsOf b) ++ intL b.recs.length ++ recsL (b.recs.take (k + 1)))) := by
        show _ = _
        rw [g5, HR.out, HM.out]
        simp [recL, textL]
      rw [hsk] at t3
      rw [hsv] at t5
      clear g1 g2 g3 g4 g5 hM y0 y1 y2
      go_wp2
      obtain ⟨W, hW⟩ : ∃ W, W = wr.alloc (.cells #[.string (strOf R.key), .string (strOf R.val), .int .i64 R.time] 102) := ⟨_, rfl⟩
      have X0 : Hid (Boxed wr W (.cells #[.string (strOf R.key), .string (strOf R.val), .int .i64 R.time] 102)) := by rw [hW]; exact Boxed.laid _ _
      rw [← hW]
      clear hW
      obtain ⟨c0, c1, c2⟩ := three X0.out
      have hX : Hid (Boxed wr W.drew (.cells #[.string (strOf R.key), .string (strOf R.val), .int .i64 R.time] 102)) := ⟨X0.out.below.drew, X0.out.box⟩
      clear x0 x1 x2 hbl
      go_region_held3 (fun w' => w'.cell? ⟨wr.heap.size, 0, none⟩ = some (.string (strOf R.key)) ∧ w'.cell? ⟨wr.heap.size, 1, none⟩ = some (.string (strOf R.val)) ∧ w'.cell? ⟨wr.heap.size, 2, none⟩ = some (.int .i64 R.time))
        (first | exact three hY.out | (refine ⟨?_, ?_, ?_⟩ <;> assumption) | go_keep)
        (first
        | (go_at_call 52; refine (H13.out _ _ (by first | exact p0.out | exact p1.out | exact p2.out)).mono ?_; rintro e w1 ⟨rfl, hb1⟩; have hY := hid (keep_three hX.out hb1); clear hb1 hX; have hX := hY)
        | fail)
      have HN := hid (HD.out.next hY.out.below)
      clear hY hX X0 c0 c1 c2 c5
      go_wp2
      go_roundg (b.recs.length - (k + 1))
      case measure => omega
      case rel => exact ⟨k + 1, U5, by omega, Nat.le_refl _, by go_num, rfl, HU, HN⟩
    · have hlt' : ¬ (k : Int) < (b.recs.length : Int) := by omega
      have HF : Hid (S = strOf (bodyL b)) := by
        show _ = _
        rw [HK.out, HE.out, List.take_of_length_le (by omega)]
      go_wp2
      go_ret
      exact ⟨by rw [HF.out]; rfl, HD.out.below⟩
end Go.Proofs.Ytkdbclnnmpnfgaa

