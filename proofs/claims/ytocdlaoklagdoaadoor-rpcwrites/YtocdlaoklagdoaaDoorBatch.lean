/- Batch of wire. -/
import Derived.Test.YtocdlaoklagdoaaDoorRight
namespace Go.Proofs.YtocdlaoklagdoaaDoor
open Go.RowKit Go.Maps
set_option linter.unusedSimpArgs false
set_option linter.unusedVariables false
set_option maxRecDepth 100000

theorem strOf_append (l m : List UInt8) : strOf l ++ strOf m = strOf (l ++ m) := by
  apply ByteArray.ext
  simp [strOf]

theorem right_facts {b : Bat} (h : rightL b = 0) : b.recs.length ≤ 64 ∧ (∀ r ∈ b.recs, r.key.length ≤ 1000 ∧ r.val.length ≤ 1000) ∧ (bodyL b).length ≤ 4088 := by
  obtain ⟨_, _, _, h4, h5, _, h7⟩ := rightL_ok h
  exact ⟨h4, long_no h5, h7⟩

set_option maxHeartbeats 1600000 in
theorem batch_any {w : World} (b : Bat) (a : Option Addr) (cap : Nat) (hr : Recs w (.slice a b.recs.length cap) b.recs) (hi : b.ints) :
    Calls Tryd.prog 88 #[.agg #[.int .i64 b.base, .int .i64 b.epoch, .int .i64 b.pid, .int .i64 b.pidEpoch, .int .i64 b.seq, .slice a b.recs.length cap]] w fun e w' => e = .returned (.tuple #[.string (strOf (batchL b).1), .int .i64 (batchL b).2]) ∧ Below w.heap.size w w' := by
  have HX0 := hid (Boxed.laid w (.cells #[.int .i64 b.base, .int .i64 b.epoch, .int .i64 b.pid, .int .i64 b.pidEpoch, .int .i64 b.seq, .slice a b.recs.length cap] 50))
  have H18 : Hid (∀ W : World, Below w.heap.size w W → Calls Tryd.prog 45 #[.agg #[.int .i64 b.base, .int .i64 b.epoch, .int .i64 b.pid, .int .i64 b.pidEpoch, .int .i64 b.seq, .slice a b.recs.length cap]] W fun e w' => e = .returned (.int .i64 (rightL b)) ∧ Below W.heap.size W w') := fun W h => right_any b a cap (hr.under h) hi
  by_cases hR : rightL b = 0
  · obtain ⟨h1, h2, h3⟩ := right_facts hR
    have HF : Hid (batchL b = (fourL (bodyL b).length ++ fourL (crcL (bodyL b)) ++ bodyL b, 0)) := by show _ = _; unfold batchL; rw [if_pos hR]
    have H31 : Hid (∀ W : World, Below w.heap.size w W → Calls Tryd.prog 68 #[.agg #[.int .i64 b.base, .int .i64 b.epoch, .int .i64 b.pid, .int .i64 b.pidEpoch, .int .i64 b.seq, .slice a b.recs.length cap]] W fun e w' => e = .returned (.string (strOf (bodyL b))) ∧ Below W.heap.size W w') := fun W h => by
      obtain ⟨a2, cap2, e, ha⟩ := (hr.under h).shape
      cases e
      exact body_any b a cap ha hi (fun r hx => (hr.ok r hx).1) h1 h2
    have HR := hid hR
    clear h1 h2 hR hr
    generalize bodyL b = L at *
    have hsz := strOf_size L
    have hcrc := crcL_lt L
    have H14 := hid (fun W => crc_any (strOf L) W (by rw [hsz]; unfold maxLen; omega))
    rw [strOf_data] at H14
    have H32a := hid (fun W => four_any L.length W (by omega))
    have H32b := hid (fun W => four_any (crcL L) W hcrc)
    have e1 := strOf_append (fourL L.length) (fourL (crcL L))
    have e2 := strOf_append (fourL L.length ++ fourL (crcL L)) L
    generalize crcL L = C at *
    have z1 : (strOf (fourL L.length)).size = 4 := strOf_size _
    have z2 : (strOf (fourL C)).size = 4 := strOf_size _
    have z3 : (strOf (fourL L.length ++ fourL C)).size = 8 := strOf_size _
    go_enter Tryd.func88, Tryd.ntmps88
    go_wp2_with (go_at_call 45; refine (H18.out _ HX0.out.below).mono ?_; rintro e w1 ⟨rfl, hb1⟩; rw [HR.out]; have HX1 := hid (HX0.out.next hb1); obtain ⟨c10, c11, c12, c13, c14, c15⟩ := six HX1.out; clear hb1)
    go_wp2_with (go_at_call 68; refine (H31.out _ HX1.out.below).mono ?_; rintro e w2 ⟨rfl, hb2⟩; have HX2 := hid (HX1.out.next hb2); clear hb2)
    refine (H32a.out _).mono ?_
    rintro e w3 ⟨rfl, hb3⟩
    have HX3 := hid (HX2.out.next hb3)
    clear hb3
    go_wp2_with (go_at_call 23; refine (H14.out _).mono ?_; rintro e w4 ⟨rfl, rfl⟩)
    refine (H32b.out _).mono ?_
    rintro e w5 ⟨rfl, hb5⟩
    have HX5 := hid (HX3.out.next hb5)
    clear hb5
    go_wp2
    go_ret2
    exact ⟨by rw [HF.out, List.append_assoc]; rfl, HX5.out.below⟩
  · have HF : Hid (batchL b = ([], rightL b)) := by show _ = _; unfold batchL; rw [if_neg hR]
    have hne : (rightL b != 0) = true := by simp [hR]
    have hne2 : (rightL b == 0) = false := by simp [hR]
    clear hR hr
    go_enter Tryd.func88, Tryd.ntmps88
    go_wp2_with (go_at_call 45; refine (H18.out _ HX0.out.below).mono ?_; rintro e w1 ⟨rfl, hb1⟩)
    go_ret2
    exact ⟨by rw [HF.out]; rfl, (HX0.out.next hb1).below⟩
end Go.Proofs.YtocdlaoklagdoaaDoor
