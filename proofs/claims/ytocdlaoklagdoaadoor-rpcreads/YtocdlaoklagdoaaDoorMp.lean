/- Which parts are there. -/
import Derived.Test.YtocdlaoklagdoaaDoorMn
namespace Go.Proofs.YtocdlaoklagdoaaDoor
open Go.RowKit Go.Maps
set_option linter.unusedSimpArgs false
set_option linter.unusedVariables false
set_option maxRecDepth 100000

set_option maxHeartbeats 3200000 in
theorem partsOf_any {w : World} (m : Msg) (ba : Option Addr) (bc : Nat) (ea : Option Addr) (ec : Nat) (ia : Option Addr) (ic : Nat) (hk : m.ok) :
    Calls Tryd.prog 47 #[.agg #[.int .i64 m.kind, .int .i64 m.n0, .int .i64 m.n1, .int .i64 m.n2, .int .i64 m.n3, .int .i64 m.n4, .int .i64 m.n5, .int .i64 m.n6, .int .i64 m.n7, .int .i64 m.n8, .int .i64 m.n9, .int .i64 m.n10, .int .i64 m.n11, .int .i64 m.n12, .int .i64 m.n13, .int .i64 m.err, .string (strOf m.name), .string (strOf m.text), .slice ba m.bats.length bc, .slice ea m.ents.length ec, .slice ia m.ints.length ic]] w fun e w' => e = .returned (.int .i64 (sumL m : Nat)) ∧ Below w.heap.size w w' := by
  have HS := hid (sum_is m)
  have hbl := hk.batsLen
  have hel := hk.entsLen
  have hil := hk.intsLen
  unfold maxLen at hbl hel hil
  have HX : Hid (∀ (k : Nat), k < 14 → ∀ w, (Instr.index 83 (.agg #[.int .i64 m.n0, .int .i64 m.n1, .int .i64 m.n2, .int .i64 m.n3, .int .i64 m.n4, .int .i64 m.n5, .int .i64 m.n6, .int .i64 m.n7, .int .i64 m.n8, .int .i64 m.n9, .int .i64 m.n10, .int .i64 m.n11, .int .i64 m.n12, .int .i64 m.n13]) (.int .i64 (k : Int))).run Tryd.prog w = .ok (.int .i64 ((nums m).getD k 0)) w) := fun k hk w => index83 m k hk w
  have HT := hid (there_take m)
  have hlt14 : Hid (∀ k, k ≤ 14 → bitsOf ((there m).take k) < 2 ^ k) := fun k hk => by
    have := bitsOf_lt ((there m).take k)
    have hl : ((there m).take k).length = k := by rw [List.length_take, there_length]; omega
    rw [hl] at this
    exact this
  have HQ := hid bit_any
  have H63 := hid (fun W => numbersOf_any m.kind m.n0 m.n1 m.n2 m.n3 m.n4 m.n5 m.n6 m.n7 m.n8 m.n9 m.n10 m.n11 m.n12 m.n13 m.err (strOf m.name) (strOf m.text) ba ea ia m.bats.length bc m.ents.length ec m.ints.length ic W)
  have HN16 := hid (str_empty m.name)
  have HN17 := hid (str_empty m.text)
  obtain ⟨A, hA⟩ : ∃ A : List Int, A = nums m := ⟨_, rfl⟩
  obtain ⟨Th, hTh⟩ : ∃ Th : List Bool, Th = there m := ⟨_, rfl⟩
  obtain ⟨R, hR⟩ : ∃ R : Nat, R = sumL m := ⟨_, rfl⟩
  rw [← hA] at HX HT
  rw [← hTh] at HT hlt14 HS
  rw [← hR] at HS ⊢
  clear hA hTh hR hk
  have X0 := hid (Boxed.laid w (.cells #[.int .i64 m.kind, .int .i64 m.n0, .int .i64 m.n1, .int .i64 m.n2, .int .i64 m.n3, .int .i64 m.n4, .int .i64 m.n5, .int .i64 m.n6, .int .i64 m.n7, .int .i64 m.n8, .int .i64 m.n9, .int .i64 m.n10, .int .i64 m.n11, .int .i64 m.n12, .int .i64 m.n13, .int .i64 m.err, .string (strOf m.name), .string (strOf m.text), .slice ba m.bats.length bc, .slice ea m.ents.length ec, .slice ia m.ints.length ic] 27))
  go_enter Tryd.func47, Tryd.ntmps47
  go_wp2_with (first | (refine wpList_load_row rfl 27 _ rfl w.heap.size rfl 27 _ (0, 0) _ X0.out.box Tryd.underlying27 rfl size27 ?_) | (go_at_call 63; refine (H63.out _).mono ?_; rintro e w1 ⟨rfl, hb1⟩))
  have X1 := hid (X0.out.next hb1)
  obtain ⟨d0, d1, d2, d3, d4, d5, d6, d7, d8, d9, d10, d11, d12, d13, d14, d15, d16, d17, d18, d19, d20⟩ := mcells X1.out.box
  clear hb1 X0 H63 d0 d1 d2 d3 d4 d5 d6 d7 d8 d9 d10 d11 d12 d13 d14
  go_loop [3, 8] (fun p i => ∃ k : Nat, k ≤ 14 ∧ i = .int .i64 k ∧ p = .int .i64 (bitsOf (Th.take k) : Nat)) (fun _ i => 14 - (intOf i).toNat)
  case atStart => exact ⟨0, by omega, rfl, by simp [bitsOf]⟩
  case round =>
    obtain ⟨k, hk, rfl, rfl⟩ := hrel
    by_cases hlt : k < 14
    · have hlt' : (k : Int) < 14 := by omega
      have hX := HX.out k hlt
      have hp := hid (hlt14.out k hk)
      have hor := or_bit (bitsOf (Th.take k)) k (A.getD k 0 != 0) hp.out (by omega)
      have HB := hid (fun W => HQ.out k (by omega) (A.getD k 0 != 0) W)
      have hT2 : Hid (bitsOf (Th.take (k + 1)) = bitsOf (Th.take k) + bitV k (A.getD k 0 != 0)) := by
        show _ = _
        have hl : (Th.take k).length = k := by
          have h1 := congrArg List.length (HT.out k hlt)
          simp only [List.length_append, List.length_take, List.length_cons, List.length_nil] at h1 ⊢
          omega
        rw [HT.out k hlt, bitsOf_snoc, hl, bne_decide]
      generalize A.getD k 0 = N at *
      generalize bitsOf (Th.take k) = P at *
      generalize hbv : bitV k (N != 0) = BV at *
      generalize hZ : P + BV = Z at *
      clear hZ hbv
      go_wp2_with (go_at_call 69; refine (HB.out _).mono ?_; rintro e w2 ⟨rfl, rfl⟩)
      go_round
      case rel => exact ⟨k + 1, by omega, by go_num, by rw [hT2.out]⟩
      case measure => simp [intOf]; omega
    · have hlt' : ¬ (k : Int) < 14 := by omega
      have hk4 : k = 14 := by omega
      subst hk4
      have hp := hid (hlt14.out 14 (by omega))
      generalize bitsOf (Th.take 14) = P at *
      have q : Hid (∀ (i : Int) (b : Bool) (W : World), 0 ≤ i → i < 20 → Calls Tryd.prog 69 #[.int .i64 i, .bool b] W fun e w' => e = .returned (.int .i64 (bitV i.toNat b : Nat)) ∧ w' = W) := fun i b W h1 h2 => by
        obtain ⟨j, rfl⟩ := Int.eq_ofNat_of_zero_le h1
        exact HQ.out j (by omega) b W
      clear hlt HQ HX HT hlt14
      generalize (Value.agg #[.int .i64 m.kind, .int .i64 m.n0, .int .i64 m.n1, .int .i64 m.n2, .int .i64 m.n3, .int .i64 m.n4, .int .i64 m.n5, .int .i64 m.n6, .int .i64 m.n7, .int .i64 m.n8, .int .i64 m.n9, .int .i64 m.n10, .int .i64 m.n11, .int .i64 m.n12, .int .i64 m.n13, .int .i64 m.err, .string (strOf m.name), .string (strOf m.text), .slice ba m.bats.length bc, .slice ea m.ents.length ec, .slice ia m.ints.length ic]) = V0
      generalize (Value.agg #[.int .i64 m.n0, .int .i64 m.n1, .int .i64 m.n2, .int .i64 m.n3, .int .i64 m.n4, .int .i64 m.n5, .int .i64 m.n6, .int .i64 m.n7, .int .i64 m.n8, .int .i64 m.n9, .int .i64 m.n10, .int .i64 m.n11, .int .i64 m.n12, .int .i64 m.n13]) = V1
      go_wp2
      go_quiet ((go_at_call 69; exact Calls.quiet_of_same (q.out _ _ _ (by decide) (by decide))))
      go_wp2
      go_ret
      have hp0 := hp.out
      refine ⟨ret_int ?_, below_drewN X1.out.below _⟩
      rw [HN16.out, HN17.out, bne_decide]
      have e15 : (!decide (m.name = [])) = decide (m.name ≠ []) := by simp
      have e16 : (!decide (m.text = [])) = decide (m.text ≠ []) := by simp
      have b14 : ∀ b, bitV 14 b ≤ 16384 := fun b => by cases b <;> simp [bitV]
      have b15 : ∀ b, bitV 15 b ≤ 32768 := fun b => by cases b <;> simp [bitV]
      have b16 : ∀ b, bitV 16 b ≤ 65536 := fun b => by cases b <;> simp [bitV]
      have b17 : ∀ b, bitV 17 b ≤ 131072 := fun b => by cases b <;> simp [bitV]
      have b18 : ∀ b, bitV 18 b ≤ 262144 := fun b => by cases b <;> simp [bitV]
      have c14 := b14 (decide (m.err ≠ 0))
      have c15 := b15 (decide (m.name ≠ []))
      have c16 := b16 (decide (m.text ≠ []))
      have c17 := b17 (decide (0 < m.bats.length))
      have c18 := b18 (decide (0 < m.ents.length))
      rw [e15, e16, or_bit _ 14 _ hp0 (by omega), or_bit _ 15 _ (by omega) (by omega), or_bit _ 16 _ (by omega) (by omega), or_bit _ 17 _ (by omega) (by omega), or_bit _ 18 _ (by omega) (by omega), or_bit _ 19 _ (by omega) (by omega), HS.out]
end Go.Proofs.YtocdlaoklagdoaaDoor
