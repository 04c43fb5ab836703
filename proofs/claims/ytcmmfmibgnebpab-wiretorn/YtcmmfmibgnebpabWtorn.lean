/- WireTorn: the walk. -/
import Derived.Test.YtcmmfmibgnebpabSame
import Derived.Test.YtcmmfmibgnebpabTorn
import Derived.Lib.ConvBytes
namespace Go.Proofs.Ytcmmfmibgnebpab
open Go.RowKit Go.Maps
set_option linter.unusedSimpArgs false
set_option linter.unusedVariables false
set_option maxRecDepth 100000

theorem neg_tmod (c n : Int) : (-(c + 1)).tmod n = -((c + 1).tmod n) := by rw [Int.neg_tmod]
def pickI (c n : Int) : Int := if c < 0 then (-(c + 1)) % n else c % n
theorem pickI_range (c n : Int) (hn : 1 ≤ n) : 0 ≤ pickI c n ∧ pickI c n < n := by
  unfold pickI
  split
  · exact ⟨Int.emod_nonneg _ (by omega), Int.emod_lt_of_pos _ (by omega)⟩
  · exact ⟨Int.emod_nonneg _ (by omega), Int.emod_lt_of_pos _ (by omega)⟩
set_option maxHeartbeats 400000 in
theorem pick_any (c n : Int) (w : World) (h : I64 c) (hn : 1 ≤ n) (hn2 : n ≤ 5000) :
    Calls Try.prog 7 #[.int .i64 c, .int .i64 n] w fun e w' => e = .returned (.int .i64 (pickI c n)) ∧ w = w' := by
  obtain ⟨h1, h2⟩ := h
  by_cases hc : c < 0
  · go_enter Try.func7, Try.ntmps7
    go_wp2
    go_ret
    have e1 : -(c + 1).tmod n = (-(c + 1)).tmod n := (neg_tmod c n).symm
    have e2 : (-(c + 1)).tmod n = (-(c + 1)) % n := Int.tmod_eq_emod_of_nonneg (by omega)
    refine ⟨ret_int ?_, rfl⟩
    unfold pickI
    rw [if_pos hc, e1, e2]
  · go_enter Try.func7, Try.ntmps7
    go_wp2
    go_ret
    refine ⟨ret_int ?_, rfl⟩
    unfold pickI
    rw [if_neg (by omega)]

/-- A string's bytes in a block of their own. -/
structure Bytes8 (W W1 : World) (l : List UInt8) : Prop where
  cells : ∀ i (h : i < l.length), W1.cell? ⟨W.heap.size, i, none⟩ = some (.int .u8 (l[i].toNat : Int))
  free : ∀ i, i < l.length → W1.frozen? ⟨W.heap.size, i, none⟩ = false
  below : Below W.heap.size W W1
  size : W1.heap.size = W.heap.size + 1
theorem bytes_conv (W : World) (l : List UInt8) : Bytes8 W (Lib.bytesWorld W 5 (strOf l)) l := by
  have hge := grownCap_ge W (strOf l).size 0 5
  rw [strOf_size] at hge
  have hb := Lib.bytesWorld_at_new W 5 (strOf l)
  have hcs : ∀ i (h : i < l.length), (Lib.bytesCells W 5 (strOf l))[i]? = some (.int .u8 (l[i].toNat : Int)) := fun i h => by
    simp only [Lib.bytesCells]
    rw [Array.getElem?_append_left (by simp [strOf]; omega)]
    simp [strOf, h]
  have hsz : (Lib.bytesCells W 5 (strOf l)).size = grownCap W (strOf l).size 0 5 := by
    have e : (strOf l).data.size = l.length := by simp [strOf]
    simp only [Lib.bytesCells, Array.size_append, Array.size_map, e, strOf_size]
    simp
    omega
  refine ⟨fun i h => cell_blk hb i _ (hcs i h), fun i h => ?_, ⟨rfl, rfl, rfl, by rw [Lib.bytesWorld_size]; omega, fun k hk => Lib.bytesWorld_at_old W 5 _ k hk⟩, Lib.bytesWorld_size W 5 _⟩
  simp only [World.frozen?, hb]
  have : ¬ grownCap W (strOf l).size 0 5 ≤ i := by rw [strOf_size]; omega
  rw [hsz]
  simp [this]
theorem Bytes8.back {W W1 : World} {l : List UInt8} (h : Bytes8 W W1 l) (k : Nat) (x : UInt8) (hk : k < l.length) (cap : Nat) :
    (convert 32 9 (.slice (some ⟨W.heap.size, 0, none⟩) l.length cap)).run Try.prog (W1.setCell ⟨W.heap.size, k, none⟩ (.int .u8 (x.toNat : Int))) = .ok (.string (strOf (l.set k x))) (W1.setCell ⟨W.heap.size, k, none⟩ (.int .u8 (x.toNat : Int))) := by
  have := run_convert_bytes_arg (W1.setCell ⟨W.heap.size, k, none⟩ (.int .u8 (x.toNat : Int))) 32 5 Try.underlying32 Try.underlying5 W.heap.size 0 l.length cap ((l.set k x).map fun b => (b.toNat : Int)) (by simp) (fun i hi => by
    rw [Nat.zero_add]
    have hc := h.cells i hi
    by_cases e : k = i
    · subst e
      rw [World.cell?_setCell_same W1 _ _ hc]
      simp [hk]
    · rw [World.cell?_setCell_other W1 _ _ _ (by intro h2; cases h2; exact e rfl), hc]
      simp [List.getElem_set, e, hi]) 9 Try.underlying9
  rw [this, strOfNums_u8]

theorem xor_byte (c : UInt8) (y : Nat) (hy : y < 256) : bits .xor .u8 (c.toNat : Int) (y : Int) = (((UInt8.ofNat (c.toNat ^^^ y)).toNat : Nat) : Int) := by
  have hc : c.toNat < 256 := c.toNat_lt
  have hx : c.toNat ^^^ y < 2 ^ 8 := Nat.xor_lt_two_pow hc hy
  rw [u8_xor_nat _ _ hc hy, toNat_u8 _ (by omega)]
theorem xor_none (c : UInt8) : UInt8.ofNat (c.toNat ^^^ 0) = c := by simp
theorem xor_some (c : UInt8) (y : Nat) (hy : y < 256) (h0 : y ≠ 0) : UInt8.ofNat (c.toNat ^^^ y) ≠ c := by
  have hc : c.toNat < 256 := c.toNat_lt
  have hx : c.toNat ^^^ y < 2 ^ 8 := Nat.xor_lt_two_pow hc hy
  intro e
  have e2 := congrArg UInt8.toNat e
  rw [toNat_u8 _ (by omega)] at e2
  have e3 : c.toNat ^^^ y = c.toNat ^^^ 0 := by rw [e2, Nat.xor_zero]
  exact h0 (xor_cancel_left e3)

/-- What ReadBatch makes of a batch that is read as nothing. -/
theorem read_none {W : World} (l : List UInt8) (n : Int) (hl : l.length ≤ maxLen) (h : readBatchL l = (zeroBat, 0, n)) :
    Calls Try.prog 6 #[.string (strOf l)] W fun e w' => ∃ ra rc, e = .returned (.tuple #[.agg #[.int .i64 0, .int .i64 0, .int .i64 0, .int .i64 0, .int .i64 0, .slice ra 0 rc], .int .i64 0, .int .i64 n]) ∧ Below W.heap.size W w' := by
  have hc := readBatch_any (w := W) l hl
  rw [h] at hc
  refine hc.mono ?_
  rintro e w' ⟨rv, rfl, hrec, hb⟩
  obtain ⟨ra, rc, e, _⟩ := hrec.shape
  subst e
  exact ⟨ra, rc, rfl, hb⟩

set_option maxHeartbeats 3200000 in
theorem torn_walk (b : Bat) (a : Option Addr) (cap : Nat) (at_ : Int) (by_ : Int) (w : World) (hi : b.ints) (hr : Recs w (.slice a b.recs.length cap) b.recs) (hat : I64 at_) (hby : 0 ≤ by_ ∧ by_ ≤ 255) :
    Calls Try.prog 3 #[.agg #[.int .i64 b.base, .int .i64 b.epoch, .int .i64 b.pid, .int .i64 b.pidEpoch, .int .i64 b.seq, .slice a b.recs.length cap], .int .i64 at_, .int .u8 by_] w fun e w' => e = .returned (.bool true) ∧ Below w.heap.size w w' := by
  have X0 := hid (Boxed.laid w (.cells #[.int .i64 b.base, .int .i64 b.epoch, .int .i64 b.pid, .int .i64 b.pidEpoch, .int .i64 b.seq, .slice a b.recs.length cap] 24))
  have HS := hid (fun W => shown_any W)
  have H5 : Hid (∀ W : World, Below w.heap.size w W → Calls Try.prog 5 #[.agg #[.int .i64 b.base, .int .i64 b.epoch, .int .i64 b.pid, .int .i64 b.pidEpoch, .int .i64 b.seq, .slice a b.recs.length cap]] W fun e w' => e = .returned (.tuple #[.string (strOf (batchL b).1), .int .i64 (batchL b).2]) ∧ Below W.heap.size W w') := fun W h => batch_any b a cap (hr.under h) hi
  by_cases hR : rightL b = 0
  · have HF : Hid (batchL b = ((batchL b).1, 0)) := by
      show _ = _
      have : (batchL b).2 = 0 := by unfold batchL; rw [if_pos hR]
      rw [← this]
    have hL := batchL_len hR
    have h7 := (right_facts hR).2.2
    have hcut := hid (read_cut hR)
    have hset := hid (read_set hR)
    have hback := hid (readBatchL_batchL b [] hi.h0 hR)
    rw [List.append_nil] at hback
    have H5b : Hid (∀ W : World, Below w.heap.size w W → Calls Try.prog 5 #[.agg #[.int .i64 b.base, .int .i64 b.epoch, .int .i64 b.pid, .int .i64 b.pidEpoch, .int .i64 b.seq, .slice a b.recs.length cap]] W fun e w' => e = .returned (.tuple #[.string (strOf (batchL b).1), .int .i64 0]) ∧ Below W.heap.size W w') := fun W h => by
      have := H5.out W h
      rw [HF.out] at this
      exact this
    clear HF H5
    generalize (batchL b).1 = s at *
    have hL1 : 9 ≤ s.length + 1 := by omega
    have hL2 : s.length ≤ 4096 := by omega
    clear hL h7
    have hsz := strOf_size s
    have hr1 := pickI_range at_ (s.length : Int) (by omega)
    have hr2 := pickI_range at_ ((s.length : Int) - 4) (by omega)
    have P1 := hid (fun W => pick_any at_ (s.length : Int) W hat (by omega) (by omega))
    have P2 := hid (fun W => pick_any at_ ((s.length : Int) - 4) W hat (by omega) (by omega))
    generalize pickI at_ (s.length : Int) = K1 at *
    generalize pickI at_ ((s.length : Int) - 4) = K2 at *
    obtain ⟨k1, rfl⟩ := Int.eq_ofNat_of_zero_le hr1.1
    obtain ⟨k2, rfl⟩ := Int.eq_ofNat_of_zero_le hr2.1
    obtain ⟨y, rfl⟩ := Int.eq_ofNat_of_zero_le hby.1
    have hk1 : k1 < s.length := by omega
    have hk2 : 4 + k2 < s.length := by omega
    have hy : y < 256 := by omega
    have R1 := hid (fun W : World => read_none (W := W) (s.take k1) 5 (by simp; unfold maxLen; omega) (hcut.out k1 hk1))
    have hx1 := extract_take s k1
    have hxb := xor_byte s[4 + k2] y hy
    have hcv := fun W => Lib.run_convert_string_bytes (P := Try.prog) W 9 32 5 (strOf s) Try.underlying9 Try.underlying32 Try.underlying5
    clear hr1 hr2 hcut hby
    obtain ⟨x, hx⟩ : ∃ x, x = UInt8.ofNat (s[4 + k2].toNat ^^^ y) := ⟨_, rfl⟩
    have HX := hid hx
    rw [← hx] at hxb
    clear hx
    generalize hc : s[4 + k2] = cb at *
    have HC := hid hc
    clear hc
    have BW : Hid (∀ W W1 : World, W1 = Lib.bytesWorld W 5 (strOf s) → Bytes8 W W1 s) := fun W W1 h => by rw [h]; exact bytes_conv W s
    by_cases hy0 : y = 0
    · have hy0' : ((y : Int) == 0) = true := by simp [hy0]
      have hsame : s.set (4 + k2) x = s := by
        rw [HX.out, hy0, xor_none, ← HC.out, List.set_getElem_self]
      have R3 : Hid (∀ W : World, Calls Try.prog 6 #[.string (strOf (s.set (4 + k2) x))] W fun e w' => ∃ rv, e = .returned (.tuple #[.agg #[.int .i64 b.base, .int .i64 b.epoch, .int .i64 b.pid, .int .i64 b.pidEpoch, .int .i64 b.seq, rv], .int .i64 (s.length : Int), .int .i64 0]) ∧ Recs w' rv b.recs ∧ Below W.heap.size W w') := fun W => by
        have := readBatch_any (w := W) s (by unfold maxLen; omega)
        rw [hback.out] at this
        rw [hsame]
        exact this
      have HRW := hid hr
      clear hy0 hset hback hsame hr
      go_enter Try.func3, Try.ntmps3
      go_wp2_with fail
      refine (HS.out _).mono ?_
      rintro e w1 ⟨rfl, hb1⟩
      have X1 := hid (X0.out.next hb1)
      obtain ⟨c0, c1, c2, c3, c4, c5⟩ := six X1.out
      clear hb1
      go_wp2_with fail
      refine (H5b.out _ X1.out.below).mono ?_
      rintro e w2 ⟨rfl, hb2⟩
      have X2 := hid (X1.out.next hb2)
      clear hb2
      go_wp2_with fail
      refine (P1.out _).mono ?_
      rintro e w3 ⟨rfl, rfl⟩
      go_wp2_with fail
      refine (R1.out _).mono ?_
      rintro e w3 ⟨ra, rc, rfl, hb3⟩
      have X3 := hid (X2.out.next hb3)
      clear hb3
      go_wp2_with fail
      refine (P2.out _).mono ?_
      rintro e w4 ⟨rfl, hw4⟩
      have hsz4 : w4.heap.size = w3.heap.size + 1 := by rw [← hw4]; simp
      have X4 := hid (X3.out.next (show Below w3.heap.size w3 w4 by rw [← hw4]; exact (Below.refl _ _).alloc (Nat.le_refl _) _))
      subst hw4
      generalize hW4 : w3.alloc (.cells #[.int .i64 0, .int .i64 0, .int .i64 0, .int .i64 0, .int .i64 0, .slice ra 0 rc] 24) = W4 at *
      clear hW4
      obtain ⟨WB, hWB⟩ : ∃ WB, WB = Lib.bytesWorld W4 5 (strOf s) := ⟨_, rfl⟩
      have hcv4 := hcv W4
      have B8 := hid (BW.out W4 WB hWB)
      rw [← hWB, hsz] at hcv4
      clear hWB hcv BW
      generalize grownCap W4 s.length 0 5 = cp at *
      have d1 := B8.out.cells (4 + k2) hk2
      rw [HC.out] at d1
      have d2 := B8.out.free (4 + k2) hk2
      have d3 := B8.out.back (4 + k2) x hk2 cp
      have X5 := hid (X4.out.next (B8.out.below.setCell (p := ⟨W4.heap.size, 4 + k2, none⟩) (Nat.le_refl _) (.int .u8 (x.toNat : Int))))
      rw [hsz4] at hcv4 d1 d2 d3
      have X5' : Hid (Boxed w (WB.setCell ⟨w3.heap.size + 1, 4 + k2, none⟩ (.int .u8 (x.toNat : Int))) (.cells #[.int .i64 b.base, .int .i64 b.epoch, .int .i64 b.pid, .int .i64 b.pidEpoch, .int .i64 b.seq, .slice a b.recs.length cap] 24)) := by have := X5.out; rw [hsz4] at this; exact this
      have i4 : (0 : Int) ≤ 4 + (k2 : Int) := by omega
      have i5 : 4 + (k2 : Int) < (s.length : Int) := by omega
      have i6 : (4 + (k2 : Int)).toNat = 4 + k2 := by omega
      clear hsz4 X5
      go_wp2_with fail
      refine (R3.out _).mono ?_
      rintro e w6 ⟨rv, rfl, hrec, hb6⟩
      obtain ⟨rb, rd, hrv, _⟩ := hrec.shape
      subst hrv
      have X6 := hid (X5'.out.next hb6)
      have hs6 := X6.out.lt
      have HREC := hid hrec
      obtain ⟨g0, g1, g2, g3, g4, g5⟩ := six X6.out
      clear hb6 d1 d2 d3 hrec
      have H8 : Hid (∀ O, Calls Try.prog 8 #[.agg #[.int .i64 b.base, .int .i64 b.epoch, .int .i64 b.pid, .int .i64 b.pidEpoch, .int .i64 b.seq, .slice rb b.recs.length rd], .agg #[.int .i64 b.base, .int .i64 b.epoch, .int .i64 b.pid, .int .i64 b.pidEpoch, .int .i64 b.seq, .slice a b.recs.length cap]] (w6.alloc O) fun e w' => e = .returned (.bool true) ∧ Below (w6.alloc O).heap.size (w6.alloc O) w') := fun O =>
        same_eq b rb a rd cap (HREC.out.under ((Below.refl _ _).alloc (Nat.le_refl _) _)) (HRW.out.under (X6.out.below.alloc (Nat.le_of_lt hs6) _))
      go_wp2_with fail
      refine (H8.out _).mono ?_
      rintro e w7 ⟨rfl, hb7⟩
      have HF7 := hid ((X6.out.below.alloc (Nat.le_of_lt hs6) _).trans (hb7.mono (by simp; omega)))
      clear hb7
      go_wp2
      go_ret
      exact ⟨rfl, HF7.out⟩
    · have hy0' : ((y : Int) == 0) = false := by simp [hy0]
      have R2 := hid (fun W : World => read_none (W := W) (s.set (4 + k2) x) 6 (by simp; unfold maxLen; omega) (hset.out (4 + k2) x (by omega) hk2 (by rw [HC.out, HX.out]; exact xor_some cb y hy hy0)))
      clear hy0 hset hback
      go_enter Try.func3, Try.ntmps3
      go_wp2_with fail
      refine (HS.out _).mono ?_
      rintro e w1 ⟨rfl, hb1⟩
      have X1 := hid (X0.out.next hb1)
      obtain ⟨c0, c1, c2, c3, c4, c5⟩ := six X1.out
      clear hb1
      go_wp2_with fail
      refine (H5b.out _ X1.out.below).mono ?_
      rintro e w2 ⟨rfl, hb2⟩
      have X2 := hid (X1.out.next hb2)
      clear hb2
      go_wp2_with fail
      refine (P1.out _).mono ?_
      rintro e w3 ⟨rfl, rfl⟩
      go_wp2_with fail
      refine (R1.out _).mono ?_
      rintro e w3 ⟨ra, rc, rfl, hb3⟩
      have X3 := hid (X2.out.next hb3)
      clear hb3
      go_wp2_with fail
      refine (P2.out _).mono ?_
      rintro e w4 ⟨rfl, hw4⟩
      have hsz4 : w4.heap.size = w3.heap.size + 1 := by rw [← hw4]; simp
      have X4 := hid (X3.out.next (show Below w3.heap.size w3 w4 by rw [← hw4]; exact (Below.refl _ _).alloc (Nat.le_refl _) _))
      subst hw4
      generalize hW4 : w3.alloc (.cells #[.int .i64 0, .int .i64 0, .int .i64 0, .int .i64 0, .int .i64 0, .slice ra 0 rc] 24) = W4 at *
      clear hW4
      obtain ⟨WB, hWB⟩ : ∃ WB, WB = Lib.bytesWorld W4 5 (strOf s) := ⟨_, rfl⟩
      have hcv4 := hcv W4
      have B8 := hid (BW.out W4 WB hWB)
      rw [← hWB, hsz] at hcv4
      clear hWB hcv BW
      generalize grownCap W4 s.length 0 5 = cp at *
      have d1 := B8.out.cells (4 + k2) hk2
      rw [HC.out] at d1
      have d2 := B8.out.free (4 + k2) hk2
      have d3 := B8.out.back (4 + k2) x hk2 cp
      have X5 := hid (X4.out.next (B8.out.below.setCell (p := ⟨W4.heap.size, 4 + k2, none⟩) (Nat.le_refl _) (.int .u8 (x.toNat : Int))))
      rw [hsz4] at hcv4 d1 d2 d3
      have X5' : Hid (Boxed w (WB.setCell ⟨w3.heap.size + 1, 4 + k2, none⟩ (.int .u8 (x.toNat : Int))) (.cells #[.int .i64 b.base, .int .i64 b.epoch, .int .i64 b.pid, .int .i64 b.pidEpoch, .int .i64 b.seq, .slice a b.recs.length cap] 24)) := by have := X5.out; rw [hsz4] at this; exact this
      have i4 : (0 : Int) ≤ 4 + (k2 : Int) := by omega
      have i5 : 4 + (k2 : Int) < (s.length : Int) := by omega
      have i6 : (4 + (k2 : Int)).toNat = 4 + k2 := by omega
      clear hsz4 X5
      go_wp2_with fail
      refine (R2.out _).mono ?_
      rintro e w6 ⟨rb, rd, rfl, hb6⟩
      have X6 := hid (X5'.out.next hb6)
      have hs6 := X6.out.lt
      clear hb6 d1 d2 d3
      go_wp2
      go_ret
      exact ⟨rfl, X6.out.below.alloc (Nat.le_of_lt hs6) _⟩
  · have HF : Hid (batchL b = ([], rightL b)) := by show _ = _; unfold batchL; rw [if_neg hR]
    have hne : (rightL b != 0) = true := by simp [hR]
    clear hR
    go_enter Try.func3, Try.ntmps3
    go_wp2_with fail
    refine (HS.out _).mono ?_
    rintro e w1 ⟨rfl, hb1⟩
    have X1 := hid (X0.out.next hb1)
    obtain ⟨c0, c1, c2, c3, c4, c5⟩ := six X1.out
    clear hb1
    go_wp2_with fail
    refine (H5.out _ X1.out.below).mono ?_
    rintro e w2 ⟨rfl, hb2⟩
    rw [HF.out, show Value.string (strOf (([] : List UInt8), rightL b).1) = .string ⟨#[]⟩ from rfl]
    have X2 := hid (X1.out.next hb2)
    clear hb2
    go_wp2
    go_ret
    exact ⟨rfl, X2.out.below⟩
end Go.Proofs.Ytcmmfmibgnebpab
