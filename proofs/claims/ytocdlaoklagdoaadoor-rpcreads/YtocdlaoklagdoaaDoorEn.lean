/- Right and Encode of rpc. -/
import Derived.Test.YtocdlaoklagdoaaDoorRi
namespace Go.Proofs.YtocdlaoklagdoaaDoor
open Go.RowKit Go.Maps
set_option linter.unusedSimpArgs false
set_option linter.unusedVariables false
set_option maxRecDepth 100000

theorem fit_of {m : Msg} (hk : m.ok) (h : rightP m = 0) (ht : m.text.length ≤ 65528) : m.fit := by
  obtain ⟨h1, h2, h3, h4, h5, h6, h7⟩ := rightP_zero h
  exact ⟨hk, h5, ht, h2, h3, fun e he => (entRight_zero (h7 e he)).1, h4⟩

set_option maxHeartbeats 1600000 in
theorem rightBody_any {w : World} (m : Msg) (ba : Option Addr) (bc : Nat) (ea : Option Addr) (ec : Nat) (ia : Option Addr) (ic : Nat) (hk : m.ok) (hh : Here w m ba ea ia) (hT : Tab w) :
    Calls Tryd.prog 21 #[.agg #[.int .i64 m.kind, .int .i64 m.n0, .int .i64 m.n1, .int .i64 m.n2, .int .i64 m.n3, .int .i64 m.n4, .int .i64 m.n5, .int .i64 m.n6, .int .i64 m.n7, .int .i64 m.n8, .int .i64 m.n9, .int .i64 m.n10, .int .i64 m.n11, .int .i64 m.n12, .int .i64 m.n13, .int .i64 m.err, .string (strOf m.name), .string (strOf m.text), .slice ba m.bats.length bc, .slice ea m.ents.length ec, .slice ia m.ints.length ic]] w fun e w' => e = .returned (.tuple #[.string (strOf (rightM m).1), .int .i64 (rightM m).2]) ∧ Below w.heap.size w w' := by
  have X0 := hid (Boxed.laid w (.cells #[.int .i64 m.kind, .int .i64 m.n0, .int .i64 m.n1, .int .i64 m.n2, .int .i64 m.n3, .int .i64 m.n4, .int .i64 m.n5, .int .i64 m.n6, .int .i64 m.n7, .int .i64 m.n8, .int .i64 m.n9, .int .i64 m.n10, .int .i64 m.n11, .int .i64 m.n12, .int .i64 m.n13, .int .i64 m.err, .string (strOf m.name), .string (strOf m.text), .slice ba m.bats.length bc, .slice ea m.ents.length ec, .slice ia m.ints.length ic] 27))
  have H32 := hid (rightParts_any (w := w.alloc (.cells #[.int .i64 m.kind, .int .i64 m.n0, .int .i64 m.n1, .int .i64 m.n2, .int .i64 m.n3, .int .i64 m.n4, .int .i64 m.n5, .int .i64 m.n6, .int .i64 m.n7, .int .i64 m.n8, .int .i64 m.n9, .int .i64 m.n10, .int .i64 m.n11, .int .i64 m.n12, .int .i64 m.n13, .int .i64 m.err, .string (strOf m.name), .string (strOf m.text), .slice ba m.bats.length bc, .slice ea m.ents.length ec, .slice ia m.ints.length ic] 27)) m ba bc ea ec ia ic hk (hh.under X0.out.below))
  have htl := hk.text
  unfold maxLen at htl
  have hz := strOf_size m.text
  have hw2 := hT.2
  by_cases q1 : rightP m = 0
  · rw [q1] at H32
    by_cases q2 : 65528 < m.text.length
    · have HF : Hid (rightM m = ([], 2)) := by show _ = _; unfold rightM; rw [if_pos q1, if_pos q2]
      have q2' : 65528 < ((strOf m.text).size : Int) := by rw [hz]; omega
      clear hk hh hT
      go_enter Tryd.func21, Tryd.ntmps21
      go_wp2_with (first | (refine wpList_load_row rfl 27 _ rfl w.heap.size rfl 27 _ (0, 0) _ X0.out.box Tryd.underlying27 rfl size27 ?_) | (go_at_call 32; refine H32.out.mono ?_; rintro e w1 ⟨rfl, hb1⟩; have X1 := hid (X0.out.next hb1); have c17 := cell_blk X1.out.box 17 (.string (strOf m.text)) rfl; clear hb1))
      go_ret2
      exact ⟨by rw [HF.out]; rfl, X1.out.below⟩
    · have q2' : ¬ 65528 < ((strOf m.text).size : Int) := by rw [hz]; omega
      have H33 : Hid (∀ W, Below w.heap.size w W → Calls Tryd.prog 33 #[.agg #[.int .i64 m.kind, .int .i64 m.n0, .int .i64 m.n1, .int .i64 m.n2, .int .i64 m.n3, .int .i64 m.n4, .int .i64 m.n5, .int .i64 m.n6, .int .i64 m.n7, .int .i64 m.n8, .int .i64 m.n9, .int .i64 m.n10, .int .i64 m.n11, .int .i64 m.n12, .int .i64 m.n13, .int .i64 m.err, .string (strOf m.name), .string (strOf m.text), .slice ba m.bats.length bc, .slice ea m.ents.length ec, .slice ia m.ints.length ic]] W fun e w' => e = .returned (.string (strOf (bodyM m))) ∧ Below W.heap.size W w') := fun W h => bodyOf_any m ba bc ea ec ia ic (fit_of hk q1 (by omega)) (hh.under h) (hT.under h hw2)
      have hbz := strOf_size (bodyM m)
      have HN : Hid (rightM m = if 65528 < (bodyM m).length then ([], 2) else (bodyM m, 0)) := by show _ = _; unfold rightM; rw [if_pos q1, if_neg q2]
      clear hk hh hT
      generalize bodyM m = L at *
      have go1 : Hid (∀ w1, Below (w.alloc (.cells #[.int .i64 m.kind, .int .i64 m.n0, .int .i64 m.n1, .int .i64 m.n2, .int .i64 m.n3, .int .i64 m.n4, .int .i64 m.n5, .int .i64 m.n6, .int .i64 m.n7, .int .i64 m.n8, .int .i64 m.n9, .int .i64 m.n10, .int .i64 m.n11, .int .i64 m.n12, .int .i64 m.n13, .int .i64 m.err, .string (strOf m.name), .string (strOf m.text), .slice ba m.bats.length bc, .slice ea m.ents.length ec, .slice ia m.ints.length ic] 27)).heap.size (w.alloc (.cells #[.int .i64 m.kind, .int .i64 m.n0, .int .i64 m.n1, .int .i64 m.n2, .int .i64 m.n3, .int .i64 m.n4, .int .i64 m.n5, .int .i64 m.n6, .int .i64 m.n7, .int .i64 m.n8, .int .i64 m.n9, .int .i64 m.n10, .int .i64 m.n11, .int .i64 m.n12, .int .i64 m.n13, .int .i64 m.err, .string (strOf m.name), .string (strOf m.text), .slice ba m.bats.length bc, .slice ea m.ents.length ec, .slice ia m.ints.length ic] 27)) w1 → Boxed w w1 (.cells #[.int .i64 m.kind, .int .i64 m.n0, .int .i64 m.n1, .int .i64 m.n2, .int .i64 m.n3, .int .i64 m.n4, .int .i64 m.n5, .int .i64 m.n6, .int .i64 m.n7, .int .i64 m.n8, .int .i64 m.n9, .int .i64 m.n10, .int .i64 m.n11, .int .i64 m.n12, .int .i64 m.n13, .int .i64 m.err, .string (strOf m.name), .string (strOf m.text), .slice ba m.bats.length bc, .slice ea m.ents.length ec, .slice ia m.ints.length ic] 27)) := fun w1 h => X0.out.next h
      by_cases q3 : 65528 < L.length
      · have q3' : 65528 < ((strOf L).size : Int) := by rw [hbz]; omega
        have HF : Hid (rightM m = ([], 2)) := by show _ = _; rw [HN.out, if_pos q3]
        go_enter Tryd.func21, Tryd.ntmps21
        go_wp2_with (first | (refine wpList_load_row rfl 27 _ rfl w.heap.size rfl 27 _ (0, 0) _ X0.out.box Tryd.underlying27 rfl size27 ?_) | (refine wpList_load_row rfl 27 _ rfl w.heap.size rfl 27 _ (0, 0) _ X1.out.box Tryd.underlying27 rfl size27 ?_) | (go_at_call 32; refine H32.out.mono ?_; rintro e w1 ⟨rfl, hb1⟩; have X1 := hid (go1.out w1 hb1); have c17 := cell_blk X1.out.box 17 (.string (strOf m.text)) rfl; clear hb1) | (go_at_call 33; refine (H33.out _ X1.out.below).mono ?_; rintro e w2 ⟨rfl, hb2⟩))
        go_ret2
        exact ⟨by rw [HF.out]; rfl, (X1.out.next hb2).below⟩
      · have q3' : ¬ 65528 < ((strOf L).size : Int) := by rw [hbz]; omega
        have HF : Hid (rightM m = (L, 0)) := by show _ = _; rw [HN.out, if_neg q3]
        go_enter Tryd.func21, Tryd.ntmps21
        go_wp2_with (first | (refine wpList_load_row rfl 27 _ rfl w.heap.size rfl 27 _ (0, 0) _ X0.out.box Tryd.underlying27 rfl size27 ?_) | (refine wpList_load_row rfl 27 _ rfl w.heap.size rfl 27 _ (0, 0) _ X1.out.box Tryd.underlying27 rfl size27 ?_) | (go_at_call 32; refine H32.out.mono ?_; rintro e w1 ⟨rfl, hb1⟩; have X1 := hid (go1.out w1 hb1); have c17 := cell_blk X1.out.box 17 (.string (strOf m.text)) rfl; clear hb1) | (go_at_call 33; refine (H33.out _ X1.out.below).mono ?_; rintro e w2 ⟨rfl, hb2⟩))
        go_ret2
        exact ⟨by rw [HF.out]; rfl, (X1.out.next hb2).below⟩
  · have HF : Hid (rightM m = ([], rightP m)) := by show _ = _; unfold rightM; rw [if_neg q1]
    have hne : (rightP m != 0) = true := by simp [q1]
    clear hk hh hT q1
    generalize rightP m = E at *
    go_enter Tryd.func21, Tryd.ntmps21
    go_wp2_with (first | (refine wpList_load_row rfl 27 _ rfl w.heap.size rfl 27 _ (0, 0) _ X0.out.box Tryd.underlying27 rfl size27 ?_) | (go_at_call 32; refine H32.out.mono ?_; rintro e w1 ⟨rfl, hb1⟩))
    go_ret2
    exact ⟨by rw [HF.out]; rfl, (X0.out.next hb1).below⟩

theorem rpcRight_any {w : World} (m : Msg) (ba : Option Addr) (bc : Nat) (ea : Option Addr) (ec : Nat) (ia : Option Addr) (ic : Nat) (hk : m.ok) (hh : Here w m ba ea ia) (hT : Tab w) :
    Calls Tryd.prog 11 #[.agg #[.int .i64 m.kind, .int .i64 m.n0, .int .i64 m.n1, .int .i64 m.n2, .int .i64 m.n3, .int .i64 m.n4, .int .i64 m.n5, .int .i64 m.n6, .int .i64 m.n7, .int .i64 m.n8, .int .i64 m.n9, .int .i64 m.n10, .int .i64 m.n11, .int .i64 m.n12, .int .i64 m.n13, .int .i64 m.err, .string (strOf m.name), .string (strOf m.text), .slice ba m.bats.length bc, .slice ea m.ents.length ec, .slice ia m.ints.length ic]] w fun e w' => e = .returned (.int .i64 (rightM m).2) ∧ Below w.heap.size w w' := by
  have X0 := hid (Boxed.laid w (.cells #[.int .i64 m.kind, .int .i64 m.n0, .int .i64 m.n1, .int .i64 m.n2, .int .i64 m.n3, .int .i64 m.n4, .int .i64 m.n5, .int .i64 m.n6, .int .i64 m.n7, .int .i64 m.n8, .int .i64 m.n9, .int .i64 m.n10, .int .i64 m.n11, .int .i64 m.n12, .int .i64 m.n13, .int .i64 m.err, .string (strOf m.name), .string (strOf m.text), .slice ba m.bats.length bc, .slice ea m.ents.length ec, .slice ia m.ints.length ic] 27))
  have H21 := hid (rightBody_any (w := w.alloc (.cells #[.int .i64 m.kind, .int .i64 m.n0, .int .i64 m.n1, .int .i64 m.n2, .int .i64 m.n3, .int .i64 m.n4, .int .i64 m.n5, .int .i64 m.n6, .int .i64 m.n7, .int .i64 m.n8, .int .i64 m.n9, .int .i64 m.n10, .int .i64 m.n11, .int .i64 m.n12, .int .i64 m.n13, .int .i64 m.err, .string (strOf m.name), .string (strOf m.text), .slice ba m.bats.length bc, .slice ea m.ents.length ec, .slice ia m.ints.length ic] 27)) m ba bc ea ec ia ic hk (hh.under X0.out.below) (hT.under X0.out.below hT.2))
  clear hk hh hT
  generalize rightM m = R at *
  go_enter Tryd.func11, Tryd.ntmps11
  go_wp2_with (first | (refine wpList_load_row rfl 27 _ rfl w.heap.size rfl 27 _ (0, 0) _ X0.out.box Tryd.underlying27 rfl size27 ?_) | (go_at_call 21; refine H21.out.mono ?_; rintro e w1 ⟨rfl, hb1⟩))
  go_ret
  exact ⟨rfl, (X0.out.next hb1).below⟩

set_option maxHeartbeats 400000 in
theorem pfour_any (n : Nat) (w : World) (h : n < 4294967296) : Calls Tryd.prog 22 #[.int .i64 (n : Int)] w fun e w' => e = .returned (.string (strOf (fourL n))) ∧ Below w.heap.size w w' := by
  have hcv := four_conv w n h
  go_enter Tryd.func22, Tryd.ntmps22
  go_wp2
  go_ret
  exact ⟨rfl, (Below.refl _ _).alloc (Nat.le_refl _) _⟩

theorem rightM_len (m : Msg) : (rightM m).1.length ≤ 65528 := by
  unfold rightM
  split
  · split
    · simp
    · split
      · simp
      · simp only; omega
  · simp

set_option maxHeartbeats 1600000 in
theorem encode_any {w : World} (m : Msg) (ba : Option Addr) (bc : Nat) (ea : Option Addr) (ec : Nat) (ia : Option Addr) (ic : Nat) (hk : m.ok) (hh : Here w m ba ea ia) (hT : Tab w) :
    Calls Tryd.prog 9 #[.agg #[.int .i64 m.kind, .int .i64 m.n0, .int .i64 m.n1, .int .i64 m.n2, .int .i64 m.n3, .int .i64 m.n4, .int .i64 m.n5, .int .i64 m.n6, .int .i64 m.n7, .int .i64 m.n8, .int .i64 m.n9, .int .i64 m.n10, .int .i64 m.n11, .int .i64 m.n12, .int .i64 m.n13, .int .i64 m.err, .string (strOf m.name), .string (strOf m.text), .slice ba m.bats.length bc, .slice ea m.ents.length ec, .slice ia m.ints.length ic]] w fun e w' => e = .returned (.tuple #[.string (strOf (encodeL m).1), .int .i64 (encodeL m).2]) ∧ Below w.heap.size w w' := by
  have X0 := hid (Boxed.laid w (.cells #[.int .i64 m.kind, .int .i64 m.n0, .int .i64 m.n1, .int .i64 m.n2, .int .i64 m.n3, .int .i64 m.n4, .int .i64 m.n5, .int .i64 m.n6, .int .i64 m.n7, .int .i64 m.n8, .int .i64 m.n9, .int .i64 m.n10, .int .i64 m.n11, .int .i64 m.n12, .int .i64 m.n13, .int .i64 m.err, .string (strOf m.name), .string (strOf m.text), .slice ba m.bats.length bc, .slice ea m.ents.length ec, .slice ia m.ints.length ic] 27))
  have H21 := hid (rightBody_any (w := w.alloc (.cells #[.int .i64 m.kind, .int .i64 m.n0, .int .i64 m.n1, .int .i64 m.n2, .int .i64 m.n3, .int .i64 m.n4, .int .i64 m.n5, .int .i64 m.n6, .int .i64 m.n7, .int .i64 m.n8, .int .i64 m.n9, .int .i64 m.n10, .int .i64 m.n11, .int .i64 m.n12, .int .i64 m.n13, .int .i64 m.err, .string (strOf m.name), .string (strOf m.text), .slice ba m.bats.length bc, .slice ea m.ents.length ec, .slice ia m.ints.length ic] 27)) m ba bc ea ec ia ic hk (hh.under X0.out.below) (hT.under X0.out.below hT.2))
  have hlen := rightM_len m
  have HN : Hid (encodeL m = if (rightM m).2 = 0 then (frameL (rightM m).1, 0) else ([], (rightM m).2)) := rfl
  clear hk hh hT
  generalize rightM m = R at *
  obtain ⟨L, E⟩ := R
  simp only at *
  by_cases hE : E = 0
  · subst hE
    have HF : Hid (encodeL m = (fourL L.length ++ (fourL (crcL L) ++ L), 0)) := by show _ = _; rw [HN.out, if_pos rfl]; rfl
    have hsz := strOf_size L
    have hcrc := crcL_lt L
    have H14 := hid (fun W => crc_any (strOf L) W (by rw [hsz]; unfold maxLen; omega))
    rw [strOf_data] at H14
    have H32a := hid (fun W => pfour_any L.length W (by omega))
    have H32b := hid (fun W => pfour_any (crcL L) W hcrc)
    have e1 := strOf_append (fourL L.length) (fourL (crcL L))
    have e2 := strOf_append (fourL L.length ++ fourL (crcL L)) L
    generalize crcL L = C at *
    have z1 : (strOf (fourL L.length)).size = 4 := strOf_size _
    have z2 : (strOf (fourL C)).size = 4 := strOf_size _
    have z3 : (strOf (fourL L.length ++ fourL C)).size = 8 := strOf_size _
    go_enter Tryd.func9, Tryd.ntmps9
    go_wp2_with (first | (refine wpList_load_row rfl 27 _ rfl w.heap.size rfl 27 _ (0, 0) _ X0.out.box Tryd.underlying27 rfl size27 ?_) | (go_at_call 21; refine H21.out.mono ?_; rintro e w1 ⟨rfl, hb1⟩; have X1 := hid (X0.out.next hb1); clear hb1))
    refine (H32a.out _).mono ?_
    rintro e w3 ⟨rfl, hb3⟩
    have HX3 := hid (X1.out.next hb3)
    clear hb3
    go_wp2_with (go_at_call 23; refine (H14.out _).mono ?_; rintro e w4 ⟨rfl, rfl⟩)
    refine (H32b.out _).mono ?_
    rintro e w5 ⟨rfl, hb5⟩
    have HX5 := hid (HX3.out.next hb5)
    clear hb5
    go_wp2
    go_ret2
    exact ⟨by rw [HF.out, ← List.append_assoc]; rfl, HX5.out.below⟩
  · have HF : Hid (encodeL m = ([], E)) := by show _ = _; rw [HN.out, if_neg hE]
    have hne : (E != 0) = true := by simp [hE]
    clear hE
    go_enter Tryd.func9, Tryd.ntmps9
    go_wp2_with (first | (refine wpList_load_row rfl 27 _ rfl w.heap.size rfl 27 _ (0, 0) _ X0.out.box Tryd.underlying27 rfl size27 ?_) | (go_at_call 21; refine H21.out.mono ?_; rintro e w1 ⟨rfl, hb1⟩))
    go_ret2
    exact ⟨by rw [HF.out]; rfl, (X0.out.next hb1).below⟩
end Go.Proofs.YtocdlaoklagdoaaDoor
