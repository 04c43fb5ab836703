/- The document's Right and Batch. -/
import Derived.Test.YtkdbclnnmpnfgaaHRefbody
namespace Go.Proofs.Ytkdbclnnmpnfgaa
open Go.RowKit Go.Maps
set_option linter.unusedSimpArgs false
set_option linter.unusedVariables false
set_option maxRecDepth 100000

def four4 (b : Bat) : List Int := [b.epoch, b.pid, b.pidEpoch, b.seq]
theorem arg_of {b : Bat} (h : numsB b = false) : rightL b = 1 := by unfold rightL; rw [if_pos (by rw [h]; rfl)]
theorem arg_four (b : Bat) (k : Nat) (hk : k < 4) (h : inB ((four4 b).getD k 0) = false) : rightL b = 1 := by
  refine arg_of ?_
  rw [Bool.eq_false_iff]
  intro hb
  simp only [numsB, Bool.and_eq_true] at hb
  obtain ⟨⟨⟨⟨⟨e1, e2⟩, e3⟩, e4⟩, e5⟩, _⟩ := hb
  unfold four4 at h
  match k, hk with
  | 0, _ => simp [e2] at h
  | 1, _ => simp [e3] at h
  | 2, _ => simp [e4] at h
  | 3, _ => simp [e5] at h
theorem nums_all (b : Bat) (h : ∀ k, k < 4 → inB ((four4 b).getD k 0) = true) : numsB b = (decide (0 ≤ b.base) && (!(b.pid == 0) || (b.pidEpoch == 0 && b.seq == 0))) := by
  have g0 := h 0 (by omega)
  have g1 := h 1 (by omega)
  have g2 := h 2 (by omega)
  have g3 := h 3 (by omega)
  simp [four4] at g0 g1 g2 g3
  simp only [numsB, g0, g1, g2, g3, Bool.and_true]

set_option maxHeartbeats 6400000 in
theorem rright_any {w : World} (b : Bat) (a : Option Addr) (cap : Nat) (hr : Recs w (.slice a b.recs.length cap) b.recs) (hi : b.ints) :
    Calls Try.prog 30 #[.agg #[.int .i64 b.base, .int .i64 b.epoch, .int .i64 b.pid, .int .i64 b.pidEpoch, .int .i64 b.seq, .slice a b.recs.length cap]] w fun e w' => e = .returned (.int .i64 (rightL b)) ∧ Below w.heap.size w w' := by
  have hlen := hr.len
  unfold maxLen at hlen
  have HARG := hid (@arg_of b)
  have H4 := hid (arg_four b)
  have HALL := hid (nums_all b)
  obtain ⟨A, hA⟩ : ∃ A : List Int, A = four4 b := ⟨_, rfl⟩
  have HREC := hid hr
  have HINT := hid hi
  obtain ⟨n0, n1, n2, n3, n4, rs⟩ := b
  simp only at *
  go_enter Try.func30, Try.ntmps30
  go_wp2
  obtain ⟨W, hW⟩ : ∃ W, W = (w.alloc (.cells #[.int .i64 n0, .int .i64 n1, .int .i64 n2, .int .i64 n3, .int .i64 n4, .slice a rs.length cap] 33)).alloc (.cells #[.int .i64 n1, .int .i64 n2, .int .i64 n3, .int .i64 n4] 3) := ⟨_, rfl⟩
  have X0 : Hid (Boxed w W (.cells #[.int .i64 n0, .int .i64 n1, .int .i64 n2, .int .i64 n3, .int .i64 n4, .slice a rs.length cap] 33)) := by
    rw [hW]; exact (Boxed.laid _ _).next ((Below.refl _ _).alloc (Nat.le_refl _) _)
  have HC : Hid (∀ k, k < 4 → W.cell? ⟨w.heap.size + 1, k, none⟩ = some (.int .i64 (A.getD k 0))) := by
    intro k hk
    rw [hW, hA]
    refine cell_new (by simp) ?_
    match k, hk with
    | 0, _ => rfl
    | 1, _ => rfl
    | 2, _ => rfl
    | 3, _ => rfl
  rw [← hW]
  rw [← hA] at H4 HALL
  clear hW hA hr hi
  obtain ⟨c0, c1, c2, c3, c4, c5⟩ := six X0.out
  go_loop [5] (fun i => ∃ k : Nat, k ≤ 4 ∧ i = .int .i64 k ∧ Hid (∀ j, j < k → inB (A.getD j 0) = true)) (fun i => 4 - (intOf i).toNat)
  case atStart => exact ⟨0, by omega, rfl, fun j hj => by omega⟩
  case round =>
    obtain ⟨k, hk, rfl, HD⟩ := hrel
    by_cases hlt : k < 4
    · have hlt' : (k : Int) < 4 := by omega
      have hX := HC.out k hlt
      have hNO := hid (H4.out k hlt)
      have HS : Hid (inB (A.getD k 0) = true → ∀ j, j < k + 1 → inB (A.getD j 0) = true) := fun h j hj => by
        rcases Nat.lt_or_ge j k with h1 | h1
        · exact HD.out j h1
        · have : j = k := by omega
          subst this; exact h
      generalize A.getD k 0 = N at *
      by_cases h1 : N < 0
      · have HF := hid (hNO.out (by rw [Bool.eq_false_iff]; intro h; rw [inB_iff] at h; omega))
        go_wp2
        go_ret
        exact ⟨ret_int HF.out.symm, X0.out.below⟩
      · by_cases h2 : 1000000000 < N
        · have HF := hid (hNO.out (by rw [Bool.eq_false_iff]; intro h; rw [inB_iff] at h; omega))
          go_wp2
          go_ret
          exact ⟨ret_int HF.out.symm, X0.out.below⟩
        · have HF := hid (HS.out ((inB_iff N).2 ⟨by omega, by omega⟩))
          go_wp2
          go_round
          case rel => exact ⟨k + 1, by omega, by go_num, HF⟩
          case measure => simp [intOf]; omega
    · have hlt' : ¬ (k : Int) < 4 := by omega
      have HN := hid (HALL.out (fun j hj => HD.out j (by omega)))
      by_cases hb0 : n0 < 0
      · have HF := hid (HARG.out (by rw [HN.out, show decide (0 ≤ n0) = false by simp; omega]; rfl))
        go_wp2
        go_ret
        exact ⟨ret_int HF.out.symm, X0.out.below⟩
      have hd0 : decide (0 ≤ n0) = true := by simp; omega
      by_cases p1 : n2 = 0
      · have p1' : (n2 == 0) = true := by simp [p1]
        by_cases p2 : n3 = 0
        · have p2' : (n3 == 0) = true := by simp [p2]
          have p2n : (n3 != 0) = false := by simp [p2]
          by_cases p3 : n4 = 0
          · have p3n : (n4 != 0) = false := by simp [p3]
            have HNB : Hid (numsB (⟨n0, n1, n2, n3, n4, rs⟩ : Bat) = true) := by show _ = _; rw [HN.out, hd0]; simp [p1, p2, p3]
            clear p1 p2 p3 hd0
            by_cases hz : rs.length = 0
            · have hz' : ((rs.length : Int) == 0) = true := by simp [hz]
              have HF : Hid (rightL (⟨n0, n1, n2, n3, n4, rs⟩ : Bat) = 1) := by
                show _ = _
                unfold rightL
                rw [if_pos (by simp only; rw [List.eq_nil_of_length_eq_zero hz]; simp)]
              clear hz
              go_wp2
              go_ret
              exact ⟨ret_int HF.out.symm, X0.out.below⟩
            have hz' : ((rs.length : Int) == 0) = false := beq_false_of_ne (by omega)
            have hE : Hid (rs.isEmpty = false) := by
              show _ = _
              rw [Bool.eq_false_iff]; intro h; rw [List.isEmpty_iff] at h; rw [h] at hz; simp at hz
            clear hz
            go_wp2
            go_loop [6] (fun i => ∃ k : Nat, k ≤ rs.length ∧ i = .int .i64 k ∧ Hid ((rs.take k).all (fun r => inB r.time) = true)) (fun i => rs.length - (intOf i).toNat)
            case atStart => exact ⟨0, by omega, rfl, by show _ = _; simp⟩
            case round =>
              obtain ⟨k, hk, rfl, HT⟩ := hrel
              by_cases hlt : k < rs.length
              · have hlt' : (k : Int) < (rs.length : Int) := by omega
                obtain ⟨sa, sc, he, ha⟩ := HREC.out.shape
                cases he
                obtain ⟨rb, off, rfl, hbl, hc0, hc1, hc2⟩ := Recs.at (cap := cap) (ha.under X0.out.below) k hlt
                obtain ⟨⟨ht1, ht2⟩, ht3, ht4⟩ := HREC.out.ok rs[k] (List.getElem_mem hlt)
                have hsn := hid (take_all (fun r => inB r.time) rs k hlt)
                have hno := hid (all_no (fun r => inB r.time) rs k hlt)
                clear ha
                generalize rs[k].time = T at *
                generalize strOf rs[k].key = K at *
                generalize strOf rs[k].val = V at *
                have HTF : Hid (inB T = false → rightL (⟨n0, n1, n2, n3, n4, rs⟩ : Bat) = 1) := fun h => by
                  unfold rightL
                  rw [if_pos (by simp only; rw [show timesB rs = false from hno.out h]; simp)]
                by_cases h1 : T < 0
                · have HF := hid (HTF.out (by rw [Bool.eq_false_iff]; intro h; rw [inB_iff] at h; omega))
                  go_wp2
                  go_ret
                  exact ⟨ret_int HF.out.symm, X0.out.below⟩
                · by_cases h2 : 1000000000 < T
                  · have HF := hid (HTF.out (by rw [Bool.eq_false_iff]; intro h; rw [inB_iff] at h; omega))
                    go_wp2
                    go_ret
                    exact ⟨ret_int HF.out.symm, X0.out.below⟩
                  · have HF : Hid ((rs.take (k + 1)).all (fun r => inB r.time) = true) := by
                      show _ = _
                      rw [hsn.out, HT.out, (inB_iff T).2 ⟨by omega, by omega⟩]
                      rfl
                    go_wp2
                    go_round
                    case rel => exact ⟨k + 1, by omega, by go_num, HF⟩
                    case measure => simp [intOf]; omega
              · have hlt' : ¬ (k : Int) < (rs.length : Int) := by omega
                have HT2 : Hid (timesB rs = true) := by
                  have h := HT.out
                  rw [List.take_of_length_le (by omega)] at h
                  exact h
                have HC1 : Hid (¬ (numsB (⟨n0, n1, n2, n3, n4, rs⟩ : Bat) && timesB rs && !rs.isEmpty) = false) := by
                  show ¬ _
                  rw [HNB.out, HT2.out, hE.out]; simp
                by_cases h64 : 64 < rs.length
                · have h64' : 64 < (rs.length : Int) := by omega
                  have HF : Hid (rightL (⟨n0, n1, n2, n3, n4, rs⟩ : Bat) = 3) := by
                    show _ = _
                    unfold rightL
                    rw [if_neg HC1.out, if_pos h64]
                  go_wp2
                  go_ret
                  exact ⟨ret_int HF.out.symm, X0.out.below⟩
                have h64' : ¬ 64 < (rs.length : Int) := by omega
                go_wp2
                go_loop [7] (fun i => ∃ k : Nat, k ≤ rs.length ∧ i = .int .i64 k ∧ Hid ((rs.take k).any (fun r => decide (1000 < r.key.length) || decide (1000 < r.val.length)) = false)) (fun i => rs.length - (intOf i).toNat)
                case atStart => exact ⟨0, by omega, rfl, by show _ = _; simp⟩
                case round =>
                  obtain ⟨k2, hk2, rfl, HL⟩ := hrel
                  by_cases hlt2 : k2 < rs.length
                  · have hlt2' : (k2 : Int) < (rs.length : Int) := by omega
                    obtain ⟨sa, sc, he, ha⟩ := HREC.out.shape
                    cases he
                    obtain ⟨rb, off, rfl, hbl, hc0, hc1, hc2⟩ := Recs.at (cap := cap) (ha.under X0.out.below) k2 hlt2
                    obtain ⟨⟨ht1, ht2⟩, ht3, ht4⟩ := HREC.out.ok rs[k2] (List.getElem_mem hlt2)
                    unfold maxLen at ht3 ht4
                    have hsn := hid (take_any (fun r => decide (1000 < r.key.length) || decide (1000 < r.val.length)) rs k2 hlt2)
                    have hno := hid (any_yes (fun r => decide (1000 < r.key.length) || decide (1000 < r.val.length)) rs k2 hlt2)
                    clear ha
                    generalize rs[k2].time = T at *
                    generalize rs[k2].key = K at *
                    generalize rs[k2].val = V at *
                    have HLF : Hid (longB rs = true → rightL (⟨n0, n1, n2, n3, n4, rs⟩ : Bat) = 2) := fun h => by
                      unfold rightL
                      rw [if_neg HC1.out, if_neg h64, if_pos h]
                    by_cases h1 : 1000 < K.length
                    · have h1' : 1000 < ((strOf K).size : Int) := by rw [strOf_size]; omega
                      have HF := hid (HLF.out (hno.out (by simp [h1])))
                      go_wp2
                      go_ret
                      exact ⟨ret_int HF.out.symm, X0.out.below⟩
                    · have h1' : ¬ 1000 < ((strOf K).size : Int) := by rw [strOf_size]; omega
                      by_cases h2 : 1000 < V.length
                      · have h2' : 1000 < ((strOf V).size : Int) := by rw [strOf_size]; omega
                        have HF := hid (HLF.out (hno.out (by simp [h2])))
                        go_wp2
                        go_ret
                        exact ⟨ret_int HF.out.symm, X0.out.below⟩
                      · have h2' : ¬ 1000 < ((strOf V).size : Int) := by rw [strOf_size]; omega
                        have HF : Hid ((rs.take (k2 + 1)).any (fun r => decide (1000 < r.key.length) || decide (1000 < r.val.length)) = false) := by
                          show _ = _
                          rw [hsn.out, HL.out]
                          simp [h1, h2]
                        go_wp2
                        go_round
                        case rel => exact ⟨k2 + 1, by omega, by go_num, HF⟩
                        case measure => simp [intOf]; omega
                  · have hlt2' : ¬ (k2 : Int) < (rs.length : Int) := by omega
                    have HL2 : Hid (longB rs = false) := by
                      have h := HL.out
                      rw [List.take_of_length_le (by omega)] at h
                      exact h
                    have HO : Hid (overB (⟨n0, n1, n2, n3, n4, rs⟩ : Bat) = (decide (1000000000 - ((rs.length : Int) - 1) < n0) || decide (1000000 - ((rs.length : Int) - 1) < n4))) := rfl
                    by_cases o1 : 1000000000 - ((rs.length : Int) - 1) < n0
                    · have HF : Hid (rightL (⟨n0, n1, n2, n3, n4, rs⟩ : Bat) = 20) := by
                        show _ = _
                        unfold rightL
                        rw [if_neg HC1.out, if_neg h64, if_neg (by simp only; rw [HL2.out]; simp), if_pos (by rw [HO.out]; simp [o1])]
                      go_wp2
                      go_ret
                      exact ⟨ret_int HF.out.symm, X0.out.below⟩
                    by_cases o2 : 1000000 - ((rs.length : Int) - 1) < n4
                    · have HF : Hid (rightL (⟨n0, n1, n2, n3, n4, rs⟩ : Bat) = 20) := by
                        show _ = _
                        unfold rightL
                        rw [if_neg HC1.out, if_neg h64, if_neg (by simp only; rw [HL2.out]; simp), if_pos (by rw [HO.out]; simp [o2])]
                      go_wp2
                      go_ret
                      exact ⟨ret_int HF.out.symm, X0.out.below⟩
                    have hOv : Hid (overB (⟨n0, n1, n2, n3, n4, rs⟩ : Bat) = false) := by show _ = _; rw [HO.out]; simp [o1, o2]
                    have H33 : Hid (Calls Try.prog 61 #[.agg #[.int .i64 n0, .int .i64 n1, .int .i64 n2, .int .i64 n3, .int .i64 n4, .slice a rs.length cap]] W fun e w' => e = .returned (.string (strOf (bodyL (⟨n0, n1, n2, n3, n4, rs⟩ : Bat)))) ∧ Below W.heap.size W w') := by
                      obtain ⟨sa, sc, he, ha⟩ := (HREC.out.under X0.out.below).shape
                      cases he
                      exact rbody_any (⟨n0, n1, n2, n3, n4, rs⟩ : Bat) a cap ha HINT.out (fun r hx => (HREC.out.ok r hx).1) (by simp only; omega) (long_no HL2.out)
                    have hbs : (bodyL (⟨n0, n1, n2, n3, n4, rs⟩ : Bat)).length ≤ 1000000 := by
                      have := body_short (⟨n0, n1, n2, n3, n4, rs⟩ : Bat) (by simp only; omega) (long_no HL2.out) rs.length
                      simp only at this
                      rw [List.take_length] at this
                      exact this
                    have HF0 : Hid (rightL (⟨n0, n1, n2, n3, n4, rs⟩ : Bat) = if 4096 < (bodyL (⟨n0, n1, n2, n3, n4, rs⟩ : Bat)).length + 8 then 2 else 0) := by
                      show _ = _
                      unfold rightL
                      rw [if_neg HC1.out, if_neg h64, if_neg (by simp only; rw [HL2.out]; simp), if_neg (by rw [hOv.out]; simp)]
                    generalize bodyL (⟨n0, n1, n2, n3, n4, rs⟩ : Bat) = L at *
                    have hsz := strOf_size L
                    by_cases hB : 4096 < L.length + 8
                    · have hB' : 4096 < (L.length : Int) + 8 := by omega
                      have HF : Hid (rightL (⟨n0, n1, n2, n3, n4, rs⟩ : Bat) = 2) := by show _ = _; rw [HF0.out, if_pos hB]
                      go_wp2_with (go_at_call 61; refine H33.out.mono ?_; rintro e w2 ⟨rfl, hb2⟩)
                      go_ret
                      exact ⟨ret_int HF.out.symm, (X0.out.next hb2).below⟩
                    · have hB' : ¬ 4096 < (L.length : Int) + 8 := by omega
                      have HF : Hid (rightL (⟨n0, n1, n2, n3, n4, rs⟩ : Bat) = 0) := by show _ = _; rw [HF0.out, if_neg hB]
                      go_wp2_with (go_at_call 61; refine H33.out.mono ?_; rintro e w2 ⟨rfl, hb2⟩)
                      go_ret
                      exact ⟨ret_int HF.out.symm, (X0.out.next hb2).below⟩
          · have p3n : (n4 != 0) = true := by simp [p3]
            have HF := hid (HARG.out (by rw [HN.out, hd0]; simp [p1, p2, p3]))
            clear p1 p2 p3 hd0
            go_wp2
            go_ret
            exact ⟨ret_int HF.out.symm, X0.out.below⟩
        · have p2n : (n3 != 0) = true := by simp [p2]
          have HF := hid (HARG.out (by rw [HN.out, hd0]; simp [p1, p2]))
          clear p1 p2 hd0
          go_wp2
          go_ret
          exact ⟨ret_int HF.out.symm, X0.out.below⟩
      · have p1' : (n2 == 0) = false := by simp [p1]
        have HNB : Hid (numsB (⟨n0, n1, n2, n3, n4, rs⟩ : Bat) = true) := by show _ = _; rw [HN.out, hd0]; simp [p1]
        clear p1 hd0
        by_cases hz : rs.length = 0
        · have hz' : ((rs.length : Int) == 0) = true := by simp [hz]
          have HF : Hid (rightL (⟨n0, n1, n2, n3, n4, rs⟩ : Bat) = 1) := by
            show _ = _
            unfold rightL
            rw [if_pos (by simp only; rw [List.eq_nil_of_length_eq_zero hz]; simp)]
          clear hz
          go_wp2
          go_ret
          exact ⟨ret_int HF.out.symm, X0.out.below⟩
        have hz' : ((rs.length : Int) == 0) = false := beq_false_of_ne (by omega)
        have hE : Hid (rs.isEmpty = false) := by
          show _ = _
          rw [Bool.eq_false_iff]; intro h; rw [List.isEmpty_iff] at h; rw [h] at hz; simp at hz
        clear hz
        go_wp2
        go_loop [6] (fun i => ∃ k : Nat, k ≤ rs.length ∧ i = .int .i64 k ∧ Hid ((rs.take k).all (fun r => inB r.time) = true)) (fun i => rs.length - (intOf i).toNat)
        case atStart => exact ⟨0, by omega, rfl, by show _ = _; simp⟩
        case round =>
          obtain ⟨k, hk, rfl, HT⟩ := hrel
          by_cases hlt : k < rs.length
          · have hlt' : (k : Int) < (rs.length : Int) := by omega
            obtain ⟨sa, sc, he, ha⟩ := HREC.out.shape
            cases he
            obtain ⟨rb, off, rfl, hbl, hc0, hc1, hc2⟩ := Recs.at (cap := cap) (ha.under X0.out.below) k hlt
            obtain ⟨⟨ht1, ht2⟩, ht3, ht4⟩ := HREC.out.ok rs[k] (List.getElem_mem hlt)
            have hsn := hid (take_all (fun r => inB r.time) rs k hlt)
            have hno := hid (all_no (fun r => inB r.time) rs k hlt)
            clear ha
            generalize rs[k].time = T at *
            generalize strOf rs[k].key = K at *
            generalize strOf rs[k].val = V at *
            have HTF : Hid (inB T = false → rightL (⟨n0, n1, n2, n3, n4, rs⟩ : Bat) = 1) := fun h => by
              unfold rightL
              rw [if_pos (by simp only; rw [show timesB rs = false from hno.out h]; simp)]
            by_cases h1 : T < 0
            · have HF := hid (HTF.out (by rw [Bool.eq_false_iff]; intro h; rw [inB_iff] at h; omega))
              go_wp2
              go_ret
              exact ⟨ret_int HF.out.symm, X0.out.below⟩
            · by_cases h2 : 1000000000 < T
              · have HF := hid (HTF.out (by rw [Bool.eq_false_iff]; intro h; rw [inB_iff] at h; omega))
                go_wp2
                go_ret
                exact ⟨ret_int HF.out.symm, X0.out.below⟩
              · have HF : Hid ((rs.take (k + 1)).all (fun r => inB r.time) = true) := by
                  show _ = _
                  rw [hsn.out, HT.out, (inB_iff T).2 ⟨by omega, by omega⟩]
                  rfl
                go_wp2
                go_round
                case rel => exact ⟨k + 1, by omega, by go_num, HF⟩
                case measure => simp [intOf]; omega
          · have hlt' : ¬ (k : Int) < (rs.length : Int) := by omega
            have HT2 : Hid (timesB rs = true) := by
              have h := HT.out
              rw [List.take_of_length_le (by omega)] at h
              exact h
            have HC1 : Hid (¬ (numsB (⟨n0, n1, n2, n3, n4, rs⟩ : Bat) && timesB rs && !rs.isEmpty) = false) := by
              show ¬ _
              rw [HNB.out, HT2.out, hE.out]; simp
            by_cases h64 : 64 < rs.length
            · have h64' : 64 < (rs.length : Int) := by omega
              have HF : Hid (rightL (⟨n0, n1, n2, n3, n4, rs⟩ : Bat) = 3) := by
                show _ = _
                unfold rightL
                rw [if_neg HC1.out, if_pos h64]
              go_wp2
              go_ret
              exact ⟨ret_int HF.out.symm, X0.out.below⟩
            have h64' : ¬ 64 < (rs.length : Int) := by omega
            go_wp2
            go_loop [7] (fun i => ∃ k : Nat, k ≤ rs.length ∧ i = .int .i64 k ∧ Hid ((rs.take k).any (fun r => decide (1000 < r.key.length) || decide (1000 < r.val.length)) = false)) (fun i => rs.length - (intOf i).toNat)
            case atStart => exact ⟨0, by omega, rfl, by show _ = _; simp⟩
            case round =>
              obtain ⟨k2, hk2, rfl, HL⟩ := hrel
              by_cases hlt2 : k2 < rs.length
              · have hlt2' : (k2 : Int) < (rs.length : Int) := by omega
                obtain ⟨sa, sc, he, ha⟩ := HREC.out.shape
                cases he
                obtain ⟨rb, off, rfl, hbl, hc0, hc1, hc2⟩ := Recs.at (cap := cap) (ha.under X0.out.below) k2 hlt2
                obtain ⟨⟨ht1, ht2⟩, ht3, ht4⟩ := HREC.out.ok rs[k2] (List.getElem_mem hlt2)
                unfold maxLen at ht3 ht4
                have hsn := hid (take_any (fun r => decide (1000 < r.key.length) || decide (1000 < r.val.length)) rs k2 hlt2)
                have hno := hid (any_yes (fun r => decide (1000 < r.key.length) || decide (1000 < r.val.length)) rs k2 hlt2)
                clear ha
                generalize rs[k2].time = T at *
                generalize rs[k2].key = K at *
                generalize rs[k2].val = V at *
                have HLF : Hid (longB rs = true → rightL (⟨n0, n1, n2, n3, n4, rs⟩ : Bat) = 2) := fun h => by
                  unfold rightL
                  rw [if_neg HC1.out, if_neg h64, if_pos h]
                by_cases h1 : 1000 < K.length
                · have h1' : 1000 < ((strOf K).size : Int) := by rw [strOf_size]; omega
                  have HF := hid (HLF.out (hno.out (by simp [h1])))
                  go_wp2
                  go_ret
                  exact ⟨ret_int HF.out.symm, X0.out.below⟩
                · have h1' : ¬ 1000 < ((strOf K).size : Int) := by rw [strOf_size]; omega
                  by_cases h2 : 1000 < V.length
                  · have h2' : 1000 < ((strOf V).size : Int) := by rw [strOf_size]; omega
                    have HF := hid (HLF.out (hno.out (by simp [h2])))
                    go_wp2
                    go_ret
                    exact ⟨ret_int HF.out.symm, X0.out.below⟩
                  · have h2' : ¬ 1000 < ((strOf V).size : Int) := by rw [strOf_size]; omega
                    have HF : Hid ((rs.take (k2 + 1)).any (fun r => decide (1000 < r.key.length) || decide (1000 < r.val.length)) = false) := by
                      show _ = _
                      rw [hsn.out, HL.out]
                      simp [h1, h2]
                    go_wp2
                    go_round
                    case rel => exact ⟨k2 + 1, by omega, by go_num, HF⟩
                    case measure => simp [intOf]; omega
              · have hlt2' : ¬ (k2 : Int) < (rs.length : Int) := by omega
                have HL2 : Hid (longB rs = false) := by
                  have h := HL.out
                  rw [List.take_of_length_le (by omega)] at h
                  exact h
                have HO : Hid (overB (⟨n0, n1, n2, n3, n4, rs⟩ : Bat) = (decide (1000000000 - ((rs.length : Int) - 1) < n0) || decide (1000000 - ((rs.length : Int) - 1) < n4))) := rfl
                by_cases o1 : 1000000000 - ((rs.length : Int) - 1) < n0
                · have HF : Hid (rightL (⟨n0, n1, n2, n3, n4, rs⟩ : Bat) = 20) := by
                    show _ = _
                    unfold rightL
                    rw [if_neg HC1.out, if_neg h64, if_neg (by simp only; rw [HL2.out]; simp), if_pos (by rw [HO.out]; simp [o1])]
                  go_wp2
                  go_ret
                  exact ⟨ret_int HF.out.symm, X0.out.below⟩
                by_cases o2 : 1000000 - ((rs.length : Int) - 1) < n4
                · have HF : Hid (rightL (⟨n0, n1, n2, n3, n4, rs⟩ : Bat) = 20) := by
                    show _ = _
                    unfold rightL
                    rw [if_neg HC1.out, if_neg h64, if_neg (by simp only; rw [HL2.out]; simp), if_pos (by rw [HO.out]; simp [o2])]
                  go_wp2
                  go_ret
                  exact ⟨ret_int HF.out.symm, X0.out.below⟩
                have hOv : Hid (overB (⟨n0, n1, n2, n3, n4, rs⟩ : Bat) = false) := by show _ = _; rw [HO.out]; simp [o1, o2]
                have H33 : Hid (Calls Try.prog 61 #[.agg #[.int .i64 n0, .int .i64 n1, .int .i64 n2, .int .i64 n3, .int .i64 n4, .slice a rs.length cap]] W fun e w' => e = .returned (.string (strOf (bodyL (⟨n0, n1, n2, n3, n4, rs⟩ : Bat)))) ∧ Below W.heap.size W w') := by
                  obtain ⟨sa, sc, he, ha⟩ := (HREC.out.under X0.out.below).shape
                  cases he
                  exact rbody_any (⟨n0, n1, n2, n3, n4, rs⟩ : Bat) a cap ha HINT.out (fun r hx => (HREC.out.ok r hx).1) (by simp only; omega) (long_no HL2.out)
                have hbs : (bodyL (⟨n0, n1, n2, n3, n4, rs⟩ : Bat)).length ≤ 1000000 := by
                  have := body_short (⟨n0, n1, n2, n3, n4, rs⟩ : Bat) (by simp only; omega) (long_no HL2.out) rs.length
                  simp only at this
                  rw [List.take_length] at this
                  exact this
                have HF0 : Hid (rightL (⟨n0, n1, n2, n3, n4, rs⟩ : Bat) = if 4096 < (bodyL (⟨n0, n1, n2, n3, n4, rs⟩ : Bat)).length + 8 then 2 else 0) := by
                  show _ = _
                  unfold rightL
                  rw [if_neg HC1.out, if_neg h64, if_neg (by simp only; rw [HL2.out]; simp), if_neg (by rw [hOv.out]; simp)]
                generalize bodyL (⟨n0, n1, n2, n3, n4, rs⟩ : Bat) = L at *
                have hsz := strOf_size L
                by_cases hB : 4096 < L.length + 8
                · have hB' : 4096 < (L.length : Int) + 8 := by omega
                  have HF : Hid (rightL (⟨n0, n1, n2, n3, n4, rs⟩ : Bat) = 2) := by show _ = _; rw [HF0.out, if_pos hB]
                  go_wp2_with (go_at_call 61; refine H33.out.mono ?_; rintro e w2 ⟨rfl, hb2⟩)
                  go_ret
                  exact ⟨ret_int HF.out.symm, (X0.out.next hb2).below⟩
                · have hB' : ¬ 4096 < (L.length : Int) + 8 := by omega
                  have HF : Hid (rightL (⟨n0, n1, n2, n3, n4, rs⟩ : Bat) = 0) := by show _ = _; rw [HF0.out, if_neg hB]
                  go_wp2_with (go_at_call 61; refine H33.out.mono ?_; rintro e w2 ⟨rfl, hb2⟩)
                  go_ret
                  exact ⟨ret_int HF.out.symm, (X0.out.next hb2).below⟩
end Go.Proofs.Ytkdbclnnmpnfgaa

