/- The document's Encode of a message. -/
import Derived.Test.YtocdlaoklagdoaaDoorRr4
namespace Go.Proofs.YtocdlaoklagdoaaDoor
open Go.RowKit Go.Maps
set_option linter.unusedSimpArgs false
set_option linter.unusedVariables false
set_option maxRecDepth 100000

set_option maxHeartbeats 3200000 in
theorem refencode_any {w : World} (m : Msg) (ba : Option Addr) (bc : Nat) (ea : Option Addr) (ec : Nat) (ia : Option Addr) (ic : Nat) (hok : m.ok) (hh : Here w m ba ea ia) :
    Calls Tryd.prog 10 #[.agg #[.int .i64 m.kind, .int .i64 m.n0, .int .i64 m.n1, .int .i64 m.n2, .int .i64 m.n3, .int .i64 m.n4, .int .i64 m.n5, .int .i64 m.n6, .int .i64 m.n7, .int .i64 m.n8, .int .i64 m.n9, .int .i64 m.n10, .int .i64 m.n11, .int .i64 m.n12, .int .i64 m.n13, .int .i64 m.err, .string (strOf m.name), .string (strOf m.text), .slice ba m.bats.length bc, .slice ea m.ents.length ec, .slice ia m.ints.length ic]] w fun e w' => e = .returned (.tuple #[.string (strOf (encodeL m).1), .int .i64 (encodeL m).2]) ∧ Below w.heap.size w w' := by
  have X0 := hid (Boxed.laid w (.cells #[.int .i64 m.kind, .int .i64 m.n0, .int .i64 m.n1, .int .i64 m.n2, .int .i64 m.n3, .int .i64 m.n4, .int .i64 m.n5, .int .i64 m.n6, .int .i64 m.n7, .int .i64 m.n8, .int .i64 m.n9, .int .i64 m.n10, .int .i64 m.n11, .int .i64 m.n12, .int .i64 m.n13, .int .i64 m.err, .string (strOf m.name), .string (strOf m.text), .slice ba m.bats.length bc, .slice ea m.ents.length ec, .slice ia m.ints.length ic] 27))
  have BX := hid X0.out.box
  have H12 : Hid (∀ W : World, Below w.heap.size w W → Calls Tryd.prog 12 #[.agg #[.int .i64 m.kind, .int .i64 m.n0, .int .i64 m.n1, .int .i64 m.n2, .int .i64 m.n3, .int .i64 m.n4, .int .i64 m.n5, .int .i64 m.n6, .int .i64 m.n7, .int .i64 m.n8, .int .i64 m.n9, .int .i64 m.n10, .int .i64 m.n11, .int .i64 m.n12, .int .i64 m.n13, .int .i64 m.err, .string (strOf m.name), .string (strOf m.text), .slice ba m.bats.length bc, .slice ea m.ents.length ec, .slice ia m.ints.length ic]] W fun e w' => e = .returned (.int .i64 (rightM m).2) ∧ Below W.heap.size W w') := fun W h => refright4_any (w := W) m ba bc ea ec ia ic hok (hh.under h)
  by_cases hR : (rightM m).2 = 0
  · obtain ⟨hP, ht, hB, _⟩ := rightM_zero hR
    have HF := hid (encodeL_zero hR)
    have H24 : Hid (∀ W : World, Below w.heap.size w W → Calls Tryd.prog 24 #[.agg #[.int .i64 m.kind, .int .i64 m.n0, .int .i64 m.n1, .int .i64 m.n2, .int .i64 m.n3, .int .i64 m.n4, .int .i64 m.n5, .int .i64 m.n6, .int .i64 m.n7, .int .i64 m.n8, .int .i64 m.n9, .int .i64 m.n10, .int .i64 m.n11, .int .i64 m.n12, .int .i64 m.n13, .int .i64 m.err, .string (strOf m.name), .string (strOf m.text), .slice ba m.bats.length bc, .slice ea m.ents.length ec, .slice ia m.ints.length ic]] W fun e w' => e = .returned (.string (strOf (bodyM m))) ∧ Below W.heap.size W w') := fun W h => refbody_any (w := W) m ba bc ea ec ia ic hok (hh.under h) hP (by omega)
    rw [hR] at H12
    clear hR hok hh hP ht
    generalize bodyM m = L at *
    have hsz := strOf_size L
    have hcrc := crcL_lt L
    have H14 := hid (fun W => rcrc_any (strOf L) W (by rw [hsz]; unfold maxLen; omega))
    rw [strOf_data] at H14
    have H13a := hid (fun W => rfour_any L.length W (by omega))
    have H13b := hid (fun W => rfour_any (crcL L) W hcrc)
    have HFL : Hid (frameL L = fourL L.length ++ fourL (crcL L) ++ L) := by show _ = _; simp [frameL]
    have e1 := strOf_append (fourL L.length) (fourL (crcL L))
    have e2 := strOf_append (fourL L.length ++ fourL (crcL L)) L
    generalize crcL L = C at *
    have z1 : (strOf (fourL L.length)).size = 4 := strOf_size _
    have z2 : (strOf (fourL C)).size = 4 := strOf_size _
    have z3 : (strOf (fourL L.length ++ fourL C)).size = 8 := strOf_size _
    go_enter Tryd.func10, Tryd.ntmps10
    go_wp2_with (first | (refine wpList_load_row rfl 27 _ rfl w.heap.size rfl 27 _ (0, 0) _ BX.out Tryd.underlying27 rfl size27 ?_) | fail)
    refine (H12.out _ X0.out.below).mono ?_
    rintro e w1 ⟨rfl, hb1⟩
    have X1 := hid (X0.out.next hb1)
    have BX1 := hid X1.out.box
    clear hb1 X0 BX
    go_wp2_with (first | (refine wpList_load_row rfl 27 _ rfl w.heap.size rfl 27 _ (0, 0) _ BX1.out Tryd.underlying27 rfl size27 ?_) | fail)
    refine (H24.out _ X1.out.below).mono ?_
    rintro e w2 ⟨rfl, hb2⟩
    have X2 := hid (X1.out.next hb2)
    clear hb2 X1 BX1
    go_wp2_with fail
    refine (H13a.out _).mono ?_
    rintro e w3 ⟨rfl, hb3⟩
    have X3 := hid (X2.out.next hb3)
    clear hb3
    go_wp2_with (go_at_call 14; refine (H14.out _).mono ?_; rintro e w4 ⟨rfl, rfl⟩)
    refine (H13b.out _).mono ?_
    rintro e w5 ⟨rfl, hb5⟩
    have X5 := hid (X3.out.next hb5)
    clear hb5
    go_wp2
    go_ret2
    exact ⟨by rw [HF.out, HFL.out]; rfl, X5.out.below⟩
  · have HF := hid (encodeL_not hR)
    have hne : ((rightM m).2 != 0) = true := by simp [hR]
    have hne2 : ((rightM m).2 == 0) = false := by simp [hR]
    clear hR hok hh
    go_enter Tryd.func10, Tryd.ntmps10
    go_wp2_with (first | (refine wpList_load_row rfl 27 _ rfl w.heap.size rfl 27 _ (0, 0) _ BX.out Tryd.underlying27 rfl size27 ?_) | fail)
    refine (H12.out _ X0.out.below).mono ?_
    rintro e w1 ⟨rfl, hb1⟩
    go_wp2
    go_ret2
    exact ⟨by rw [HF.out]; rfl, (X0.out.next hb1).below⟩
end Go.Proofs.YtocdlaoklagdoaaDoor
