/- What is right of a message; its bytes. -/
import Derived.Test.YtocdlaoklagdoaaDoorBo
namespace Go.Proofs.YtocdlaoklagdoaaDoor
open Go.RowKit Go.Maps
set_option linter.unusedSimpArgs false
set_option linter.unusedVariables false
set_option maxRecDepth 100000

theorem first_none {α : Type} (f : α → Int) : ∀ l : List α, (∀ i (h : i < l.length), f l[i] = 0) → firstE (l.map f) = 0
  | [], _ => rfl
  | x :: r, h => by
    have h0 : f x = 0 := h 0 (by simp)
    have ih := first_none f r (fun i hi => h (i + 1) (by simp; omega))
    simp only [List.map_cons, firstE, if_pos h0, ih]
theorem first_at {α : Type} (f : α → Int) : ∀ (l : List α) (k : Nat) (hk : k < l.length), (∀ i (h : i < l.length), i < k → f l[i] = 0) → f l[k] ≠ 0 → firstE (l.map f) = f l[k]
  | [], k, hk, _, _ => by simp at hk
  | x :: r, 0, hk, _, hn => by
    have hn' : ¬ f x = 0 := hn
    simp only [List.map_cons, firstE, if_neg hn', List.getElem_cons_zero]
  | x :: r, k + 1, hk, h, hn => by
    have h0 : f x = 0 := h 0 (by simp) (by omega)
    have ih := first_at f r k (by simpa using hk) (fun i hi hik => h (i + 1) (by simp; omega) (by omega)) (by simpa using hn)
    simp only [List.map_cons, firstE, if_pos h0, ih, List.getElem_cons_succ]
theorem first_zero {α : Type} (f : α → Int) : ∀ l : List α, firstE (l.map f) = 0 → ∀ x ∈ l, f x = 0
  | [], _, x, hx => by simp at hx
  | y :: r, h, x, hx => by
    simp only [List.map_cons, firstE] at h
    by_cases h0 : f y = 0
    · rw [if_pos h0] at h
      rcases List.mem_cons.1 hx with rfl | hx
      · exact h0
      · exact first_zero f r h x hx
    · rw [if_neg h0] at h; exact absurd h h0
theorem entRight_zero {e : Ent} (h : entRight e = 0) : e.data.length ≤ 2048 ∧ inB e.term = true ∧ inB e.index = true := by
  unfold entRight at h
  split at h
  · omega
  · split at h
    · omega
    · rw [inB_iff, inB_iff]; omega
theorem numOk_iff (n : Int) : numOk n = true ↔ -1 ≤ n ∧ n ≤ 1000000000 := by simp [numOk]
theorem rightP_zero {m : Msg} (h : rightP m = 0) : numbersB m = true ∧ m.bats.length ≤ 64 ∧ m.ents.length ≤ 64 ∧ m.ints.length ≤ 256 ∧ m.name.length ≤ 32 ∧ (∀ b ∈ m.bats, rightL b = 0) ∧ (∀ e ∈ m.ents, entRight e = 0) := by
  unfold rightP at h
  split at h
  · omega
  · rename_i h1
    split at h
    · omega
    · rename_i h2
      split at h
      · omega
      · rename_i h3
        split at h
        · rename_i h4
          simp only [manyB, Bool.or_eq_true, decide_eq_true_eq] at h2
          exact ⟨by simpa using h1, by omega, by omega, by omega, by omega, first_zero _ _ h4, first_zero _ _ h⟩
        · rename_i h4; exact absurd h h4

set_option maxHeartbeats 1600000 in
theorem rightNumbers_any {w : World} (m : Msg) (ba : Option Addr) (bc : Nat) (ea : Option Addr) (ec : Nat) (ia : Option Addr) (ic : Nat) (hk : m.ok) :
    Calls Tryd.prog 44 #[.agg #[.int .i64 m.kind, .int .i64 m.n0, .int .i64 m.n1, .int .i64 m.n2, .int .i64 m.n3, .int .i64 m.n4, .int .i64 m.n5, .int .i64 m.n6, .int .i64 m.n7, .int .i64 m.n8, .int .i64 m.n9, .int .i64 m.n10, .int .i64 m.n11, .int .i64 m.n12, .int .i64 m.n13, .int .i64 m.err, .string (strOf m.name), .string (strOf m.text), .slice ba m.bats.length bc, .slice ea m.ents.length ec, .slice ia m.ints.length ic]] w fun e w' => e = .returned (.bool (numbersB m)) ∧ Below w.heap.size w w' := by
  have HX : Hid (∀ (k : Nat), k < 14 → ∀ w, (Instr.index 83 (.agg #[.int .i64 m.n0, .int .i64 m.n1, .int .i64 m.n2, .int .i64 m.n3, .int .i64 m.n4, .int .i64 m.n5, .int .i64 m.n6, .int .i64 m.n7, .int .i64 m.n8, .int .i64 m.n9, .int .i64 m.n10, .int .i64 m.n11, .int .i64 m.n12, .int .i64 m.n13]) (.int .i64 (k : Int))).run Tryd.prog w = .ok (.int .i64 ((nums m).getD k 0)) w) := fun k hk w => index83 m k hk w
  have hno : Hid (∀ k, k < 14 → ¬ (-1 ≤ (nums m).getD k 0 ∧ (nums m).getD k 0 ≤ 1000000000) → numbersB m = false) := fun k hk h => by
    have hl : k < (nums m).length := hk
    have : (nums m).all numOk = false := by
      rw [List.all_eq_false]
      refine ⟨(nums m)[k], List.getElem_mem hl, ?_⟩
      rw [numOk_iff]
      simpa [List.getD, List.getElem?_eq_getElem hl] using h
    simp [numbersB, this]
  have hyes : Hid ((∀ k, k < 14 → -1 ≤ (nums m).getD k 0 ∧ (nums m).getD k 0 ≤ 1000000000) → numbersB m = (decide (1 ≤ m.kind) && decide (m.kind ≤ 28) && decide (0 ≤ m.err) && decide (m.err ≤ 23))) := fun h => by
    have : (nums m).all numOk = true := by
      rw [List.all_eq_true]
      intro n hn
      obtain ⟨k, hk, rfl⟩ := List.getElem_of_mem hn
      rw [numOk_iff]
      have := h k hk
      simpa [List.getD, List.getElem?_eq_getElem hk] using this
    simp [numbersB, this]
  have H63 := hid (fun W => numbersOf_any m.kind m.n0 m.n1 m.n2 m.n3 m.n4 m.n5 m.n6 m.n7 m.n8 m.n9 m.n10 m.n11 m.n12 m.n13 m.err (strOf m.name) (strOf m.text) ba ea ia m.bats.length bc m.ents.length ec m.ints.length ic W)
  have X0 := hid (Boxed.laid w (.cells #[.int .i64 m.kind, .int .i64 m.n0, .int .i64 m.n1, .int .i64 m.n2, .int .i64 m.n3, .int .i64 m.n4, .int .i64 m.n5, .int .i64 m.n6, .int .i64 m.n7, .int .i64 m.n8, .int .i64 m.n9, .int .i64 m.n10, .int .i64 m.n11, .int .i64 m.n12, .int .i64 m.n13, .int .i64 m.err, .string (strOf m.name), .string (strOf m.text), .slice ba m.bats.length bc, .slice ea m.ents.length ec, .slice ia m.ints.length ic] 27))
  obtain ⟨A, hA⟩ : ∃ A : List Int, A = nums m := ⟨_, rfl⟩
  rw [← hA] at HX hno hyes
  clear hA hk
  generalize numbersB m = R at *
  go_enter Tryd.func44, Tryd.ntmps44
  go_wp2_with (first | (refine wpList_load_row rfl 27 _ rfl w.heap.size rfl 27 _ (0, 0) _ X0.out.box Tryd.underlying27 rfl size27 ?_) | (go_at_call 63; refine (H63.out _).mono ?_; rintro e w1 ⟨rfl, hb1⟩))
  have X1 := hid (X0.out.next hb1)
  have c0 := cell_blk X1.out.box 0 (.int .i64 m.kind) rfl
  have c15 := cell_blk X1.out.box 15 (.int .i64 m.err) rfl
  clear hb1 X0 H63
  go_loop [7] (fun i => ∃ k : Nat, k ≤ 14 ∧ i = .int .i64 k ∧ Hid (∀ j, j < k → -1 ≤ A.getD j 0 ∧ A.getD j 0 ≤ 1000000000)) (fun i => 14 - (intOf i).toNat)
  case atStart => exact ⟨0, by omega, rfl, fun j hj => by omega⟩
  case round =>
    obtain ⟨k, hk, rfl, HD⟩ := hrel
    by_cases hlt : k < 14
    · have hlt' : (k : Int) < 14 := by omega
      have hX := HX.out k hlt
      have hNO := hid (hno.out k hlt)
      have HS : Hid (-1 ≤ A.getD k 0 ∧ A.getD k 0 ≤ 1000000000 → ∀ j, j < k + 1 → -1 ≤ A.getD j 0 ∧ A.getD j 0 ≤ 1000000000) := fun h j hj => by
        rcases Nat.lt_or_ge j k with h1 | h1
        · exact HD.out j h1
        · have : j = k := by omega
          subst this; exact h
      generalize A.getD k 0 = N at *
      by_cases h1 : N < -1
      · have HF : Hid (R = false) := hNO.out (fun h => by omega)
        go_wp2
        go_ret
        exact ⟨ret_bool HF.out.symm, X1.out.below⟩
      · by_cases h2 : 1000000000 < N
        · have HF : Hid (R = false) := hNO.out (fun h => by omega)
          go_wp2
          go_ret
          exact ⟨ret_bool HF.out.symm, X1.out.below⟩
        · have HF := hid (HS.out ⟨by omega, by omega⟩)
          go_wp2
          go_round
          case rel => exact ⟨k + 1, by omega, by go_num, HF⟩
          case measure => simp [intOf]; omega
    · have hlt' : ¬ (k : Int) < 14 := by omega
      have HF := hid (hyes.out (fun j hj => HD.out j (by omega)))
      by_cases p1 : 1 ≤ m.kind
      · by_cases p2 : m.kind ≤ 28
        · by_cases p3 : 0 ≤ m.err
          · by_cases p4 : m.err ≤ 23
            · have HG : Hid (R = true) := by show _ = _; rw [HF.out]; simp [p1, p2, p3, p4]
              go_wp2
              go_ret
              exact ⟨ret_bool HG.out.symm, X1.out.below⟩
            · have HG : Hid (R = false) := by show _ = _; rw [HF.out]; simp [p4]
              go_wp2
              go_ret
              exact ⟨ret_bool HG.out.symm, X1.out.below⟩
          · have HG : Hid (R = false) := by show _ = _; rw [HF.out]; simp [p3]
            go_wp2
            go_ret
            exact ⟨ret_bool HG.out.symm, X1.out.below⟩
        · have HG : Hid (R = false) := by show _ = _; rw [HF.out]; simp [p2]
          go_wp2
          go_ret
          exact ⟨ret_bool HG.out.symm, X1.out.below⟩
      · have HG : Hid (R = false) := by show _ = _; rw [HF.out]; simp [p1]
        go_wp2
        go_ret
        exact ⟨ret_bool HG.out.symm, X1.out.below⟩

set_option maxHeartbeats 800000 in
theorem rightEntry_any (e : Ent) (hk : e.ok) (w : World) : Calls Tryd.prog 46 #[.agg #[.int .i64 e.term, .int .i64 e.index, .string (strOf e.data)]] w fun x w' => x = .returned (.int .i64 (entRight e)) ∧ Below w.heap.size w w' := by
  obtain ⟨h1, h2, h3⟩ := hk
  unfold maxLen at h3
  have HN : Hid (entRight e = if e.term < 0 ∨ 1000000000 < e.term ∨ e.index < 0 ∨ 1000000000 < e.index then 1 else if 2048 < e.data.length then 2 else 0) := rfl
  have hz := strOf_size e.data
  generalize entRight e = R at *
  obtain ⟨t, i, d⟩ := e
  simp only at *
  have HB : Hid (∀ O, Below w.heap.size w (w.alloc O)) := fun O => (Below.refl _ _).alloc (Nat.le_refl _) _
  by_cases p1 : t < 0
  · have HG : Hid (R = 1) := by show _ = _; rw [HN.out, if_pos (.inl p1)]
    go_enter Tryd.func46, Tryd.ntmps46
    go_wp2
    go_ret
    exact ⟨ret_int HG.out.symm, HB.out _⟩
  by_cases p2 : 1000000000 < t
  · have HG : Hid (R = 1) := by show _ = _; rw [HN.out, if_pos (.inr (.inl p2))]
    go_enter Tryd.func46, Tryd.ntmps46
    go_wp2
    go_ret
    exact ⟨ret_int HG.out.symm, HB.out _⟩
  by_cases p3 : i < 0
  · have HG : Hid (R = 1) := by show _ = _; rw [HN.out, if_pos (.inr (.inr (.inl p3)))]
    go_enter Tryd.func46, Tryd.ntmps46
    go_wp2
    go_ret
    exact ⟨ret_int HG.out.symm, HB.out _⟩
  by_cases p4 : 1000000000 < i
  · have HG : Hid (R = 1) := by show _ = _; rw [HN.out, if_pos (.inr (.inr (.inr p4)))]
    go_enter Tryd.func46, Tryd.ntmps46
    go_wp2
    go_ret
    exact ⟨ret_int HG.out.symm, HB.out _⟩
  by_cases p5 : 2048 < d.length
  · have p5' : 2048 < ((strOf d).size : Int) := by rw [hz]; omega
    have HG : Hid (R = 2) := by show _ = _; rw [HN.out, if_neg (by omega), if_pos p5]
    go_enter Tryd.func46, Tryd.ntmps46
    go_wp2
    go_ret
    exact ⟨ret_int HG.out.symm, HB.out _⟩
  · have p5' : ¬ 2048 < ((strOf d).size : Int) := by rw [hz]; omega
    have HG : Hid (R = 0) := by show _ = _; rw [HN.out, if_neg (by omega), if_neg p5]
    go_enter Tryd.func46, Tryd.ntmps46
    go_wp2
    go_ret
    exact ⟨ret_int HG.out.symm, HB.out _⟩

set_option maxHeartbeats 3200000 in
theorem rightParts_any {w : World} (m : Msg) (ba : Option Addr) (bc : Nat) (ea : Option Addr) (ec : Nat) (ia : Option Addr) (ic : Nat) (hk : m.ok) (hh : Here w m ba ea ia) :
    Calls Tryd.prog 32 #[.agg #[.int .i64 m.kind, .int .i64 m.n0, .int .i64 m.n1, .int .i64 m.n2, .int .i64 m.n3, .int .i64 m.n4, .int .i64 m.n5, .int .i64 m.n6, .int .i64 m.n7, .int .i64 m.n8, .int .i64 m.n9, .int .i64 m.n10, .int .i64 m.n11, .int .i64 m.n12, .int .i64 m.n13, .int .i64 m.err, .string (strOf m.name), .string (strOf m.text), .slice ba m.bats.length bc, .slice ea m.ents.length ec, .slice ia m.ints.length ic]] w fun e w' => e = .returned (.int .i64 (rightP m)) ∧ Below w.heap.size w w' := by
  have X0 := hid (Boxed.laid w (.cells #[.int .i64 m.kind, .int .i64 m.n0, .int .i64 m.n1, .int .i64 m.n2, .int .i64 m.n3, .int .i64 m.n4, .int .i64 m.n5, .int .i64 m.n6, .int .i64 m.n7, .int .i64 m.n8, .int .i64 m.n9, .int .i64 m.n10, .int .i64 m.n11, .int .i64 m.n12, .int .i64 m.n13, .int .i64 m.err, .string (strOf m.name), .string (strOf m.text), .slice ba m.bats.length bc, .slice ea m.ents.length ec, .slice ia m.ints.length ic] 27))
  have H44 := hid (rightNumbers_any (w := w.alloc (.cells #[.int .i64 m.kind, .int .i64 m.n0, .int .i64 m.n1, .int .i64 m.n2, .int .i64 m.n3, .int .i64 m.n4, .int .i64 m.n5, .int .i64 m.n6, .int .i64 m.n7, .int .i64 m.n8, .int .i64 m.n9, .int .i64 m.n10, .int .i64 m.n11, .int .i64 m.n12, .int .i64 m.n13, .int .i64 m.err, .string (strOf m.name), .string (strOf m.text), .slice ba m.bats.length bc, .slice ea m.ents.length ec, .slice ia m.ints.length ic] 27)) m ba bc ea ec ia ic hk)
  have hbl := hk.batsLen
  have hel := hk.entsLen
  have hil := hk.intsLen
  have hnl := hk.name
  unfold maxLen at hbl hel hil hnl
  have HK := hid hk
  have HH := hid hh
  have hz := strOf_size m.name
  clear hk hh
  by_cases q1 : numbersB m = false
  · have HF : Hid (rightP m = 1) := by show _ = _; unfold rightP; rw [if_pos q1]
    rw [q1] at H44
    go_enter Tryd.func32, Tryd.ntmps32
    go_wp2_with (first | (refine wpList_load_row rfl 27 _ rfl w.heap.size rfl 27 _ (0, 0) _ X0.out.box Tryd.underlying27 rfl size27 ?_) | (go_at_call 44; refine H44.out.mono ?_; rintro e w1 ⟨rfl, hb1⟩))
    go_ret
    exact ⟨ret_int HF.out.symm, (X0.out.next hb1).below⟩
  have q1' : numbersB m = true := by simpa using q1
  rw [q1'] at H44
  have arm : Hid (∀ w1, Below (w.alloc (.cells #[.int .i64 m.kind, .int .i64 m.n0, .int .i64 m.n1, .int .i64 m.n2, .int .i64 m.n3, .int .i64 m.n4, .int .i64 m.n5, .int .i64 m.n6, .int .i64 m.n7, .int .i64 m.n8, .int .i64 m.n9, .int .i64 m.n10, .int .i64 m.n11, .int .i64 m.n12, .int .i64 m.n13, .int .i64 m.err, .string (strOf m.name), .string (strOf m.text), .slice ba m.bats.length bc, .slice ea m.ents.length ec, .slice ia m.ints.length ic] 27)).heap.size (w.alloc (.cells #[.int .i64 m.kind, .int .i64 m.n0, .int .i64 m.n1, .int .i64 m.n2, .int .i64 m.n3, .int .i64 m.n4, .int .i64 m.n5, .int .i64 m.n6, .int .i64 m.n7, .int .i64 m.n8, .int .i64 m.n9, .int .i64 m.n10, .int .i64 m.n11, .int .i64 m.n12, .int .i64 m.n13, .int .i64 m.err, .string (strOf m.name), .string (strOf m.text), .slice ba m.bats.length bc, .slice ea m.ents.length ec, .slice ia m.ints.length ic] 27)) w1 → Boxed w w1 (.cells #[.int .i64 m.kind, .int .i64 m.n0, .int .i64 m.n1, .int .i64 m.n2, .int .i64 m.n3, .int .i64 m.n4, .int .i64 m.n5, .int .i64 m.n6, .int .i64 m.n7, .int .i64 m.n8, .int .i64 m.n9, .int .i64 m.n10, .int .i64 m.n11, .int .i64 m.n12, .int .i64 m.n13, .int .i64 m.err, .string (strOf m.name), .string (strOf m.text), .slice ba m.bats.length bc, .slice ea m.ents.length ec, .slice ia m.ints.length ic] 27)) := fun w1 h => X0.out.next h
  by_cases q2 : 64 < m.bats.length
  · have HF : Hid (rightP m = 3) := by show _ = _; unfold rightP; rw [if_neg q1, if_pos (by simp only [manyB, Bool.or_eq_true, decide_eq_true_eq]; omega)]
    have q2' : 64 < (m.bats.length : Int) := by omega
    go_enter Tryd.func32, Tryd.ntmps32
    go_wp2_with (first | (refine wpList_load_row rfl 27 _ rfl w.heap.size rfl 27 _ (0, 0) _ X0.out.box Tryd.underlying27 rfl size27 ?_) | (go_at_call 44; refine H44.out.mono ?_; rintro e w1 ⟨rfl, hb1⟩; have X1 := hid (arm.out w1 hb1); have c18 := cell_blk X1.out.box 18 (.slice ba m.bats.length bc) rfl; have c19 := cell_blk X1.out.box 19 (.slice ea m.ents.length ec) rfl; have c20 := cell_blk X1.out.box 20 (.slice ia m.ints.length ic) rfl; clear hb1))
    go_ret
    exact ⟨ret_int HF.out.symm, X1.out.below⟩
  have q2' : ¬ 64 < (m.bats.length : Int) := by omega
  by_cases q3 : 64 < m.ents.length
  · have HF : Hid (rightP m = 3) := by show _ = _; unfold rightP; rw [if_neg q1, if_pos (by simp only [manyB, Bool.or_eq_true, decide_eq_true_eq]; omega)]
    have q3' : 64 < (m.ents.length : Int) := by omega
    go_enter Tryd.func32, Tryd.ntmps32
    go_wp2_with (first | (refine wpList_load_row rfl 27 _ rfl w.heap.size rfl 27 _ (0, 0) _ X0.out.box Tryd.underlying27 rfl size27 ?_) | (go_at_call 44; refine H44.out.mono ?_; rintro e w1 ⟨rfl, hb1⟩; have X1 := hid (arm.out w1 hb1); have c18 := cell_blk X1.out.box 18 (.slice ba m.bats.length bc) rfl; have c19 := cell_blk X1.out.box 19 (.slice ea m.ents.length ec) rfl; have c20 := cell_blk X1.out.box 20 (.slice ia m.ints.length ic) rfl; clear hb1))
    go_ret
    exact ⟨ret_int HF.out.symm, X1.out.below⟩
  have q3' : ¬ 64 < (m.ents.length : Int) := by omega
  by_cases q4 : 256 < m.ints.length
  · have HF : Hid (rightP m = 3) := by show _ = _; unfold rightP; rw [if_neg q1, if_pos (by simp only [manyB, Bool.or_eq_true, decide_eq_true_eq]; omega)]
    have q4' : 256 < (m.ints.length : Int) := by omega
    go_enter Tryd.func32, Tryd.ntmps32
    go_wp2_with (first | (refine wpList_load_row rfl 27 _ rfl w.heap.size rfl 27 _ (0, 0) _ X0.out.box Tryd.underlying27 rfl size27 ?_) | (go_at_call 44; refine H44.out.mono ?_; rintro e w1 ⟨rfl, hb1⟩; have X1 := hid (arm.out w1 hb1); have c18 := cell_blk X1.out.box 18 (.slice ba m.bats.length bc) rfl; have c19 := cell_blk X1.out.box 19 (.slice ea m.ents.length ec) rfl; have c20 := cell_blk X1.out.box 20 (.slice ia m.ints.length ic) rfl; clear hb1))
    go_ret
    exact ⟨ret_int HF.out.symm, X1.out.below⟩
  have q4' : ¬ 256 < (m.ints.length : Int) := by omega
  have q5 : Hid (manyB m = false) := by show _ = _; simp only [manyB, Bool.or_eq_false_iff, decide_eq_false_iff_not]; omega
  by_cases q6 : 32 < m.name.length
  · have HF : Hid (rightP m = 2) := by show _ = _; unfold rightP; rw [if_neg q1, if_neg (by rw [q5.out]; simp), if_pos q6]
    have q6' : 32 < ((strOf m.name).size : Int) := by rw [hz]; omega
    go_enter Tryd.func32, Tryd.ntmps32
    go_wp2_with (first | (refine wpList_load_row rfl 27 _ rfl w.heap.size rfl 27 _ (0, 0) _ X0.out.box Tryd.underlying27 rfl size27 ?_) | (go_at_call 44; refine H44.out.mono ?_; rintro e w1 ⟨rfl, hb1⟩; have X1 := hid (arm.out w1 hb1); have c16 := cell_blk X1.out.box 16 (.string (strOf m.name)) rfl; have c18 := cell_blk X1.out.box 18 (.slice ba m.bats.length bc) rfl; have c19 := cell_blk X1.out.box 19 (.slice ea m.ents.length ec) rfl; have c20 := cell_blk X1.out.box 20 (.slice ia m.ints.length ic) rfl; clear hb1))
    go_ret
    exact ⟨ret_int HF.out.symm, X1.out.below⟩
  have q6' : ¬ 32 < ((strOf m.name).size : Int) := by rw [hz]; omega
  have HF : Hid (rightP m = if firstE (m.bats.map rightL) = 0 then firstE (m.ents.map entRight) else firstE (m.bats.map rightL)) := by show _ = _; unfold rightP; rw [if_neg q1, if_neg (by rw [q5.out]; simp), if_neg q6]
  clear q1 q1' q2 q3 q4 q6 q5
  go_enter Tryd.func32, Tryd.ntmps32
  go_wp2_with (first | (refine wpList_load_row rfl 27 _ rfl w.heap.size rfl 27 _ (0, 0) _ X0.out.box Tryd.underlying27 rfl size27 ?_) | (go_at_call 44; refine H44.out.mono ?_; rintro e w1 ⟨rfl, hb1⟩; have X1 := hid (arm.out w1 hb1); have c16 := cell_blk X1.out.box 16 (.string (strOf m.name)) rfl; have c18 := cell_blk X1.out.box 18 (.slice ba m.bats.length bc) rfl; have c19 := cell_blk X1.out.box 19 (.slice ea m.ents.length ec) rfl; have c20 := cell_blk X1.out.box 20 (.slice ia m.ints.length ic) rfl; clear hb1))
  clear c16 c18 c19 c20 q6' q2' q3' q4' hz hnl X0 H44 arm
  go_loopg [38] m.bats.length (fun kx s38 wr => ∃ k : Nat, k ≤ m.bats.length ∧ m.bats.length - k ≤ kx ∧ s38 = .int .i64 k ∧ Hid (Boxed w wr (.cells #[.int .i64 m.kind, .int .i64 m.n0, .int .i64 m.n1, .int .i64 m.n2, .int .i64 m.n3, .int .i64 m.n4, .int .i64 m.n5, .int .i64 m.n6, .int .i64 m.n7, .int .i64 m.n8, .int .i64 m.n9, .int .i64 m.n10, .int .i64 m.n11, .int .i64 m.n12, .int .i64 m.n13, .int .i64 m.err, .string (strOf m.name), .string (strOf m.text), .slice ba m.bats.length bc, .slice ea m.ents.length ec, .slice ia m.ints.length ic] 27) ∧ ∀ i (h : i < m.bats.length), i < k → rightL m.bats[i] = 0))
  case atStart => exact ⟨0, by omega, by omega, rfl, X1.out, fun i h h0 => by omega⟩
  case round =>
    obtain ⟨k, hk, hkx, rfl, HD⟩ := hrel
    clear X1
    by_cases hlt : k < m.bats.length
    · have hlt' : (k : Int) < (m.bats.length : Int) := by omega
      obtain ⟨b, off, ra, rc, rfl, ⟨c0, c1, c2, c3, c4, c5⟩, hrecs⟩ := (HH.out.bats.under HD.out.1.below).at k hlt
      have HC := hid (right_any m.bats[k] ra rc (hrecs.under ((Below.refl _ _).alloc (Nat.le_refl _) (.cells #[.int .i64 m.bats[k].base, .int .i64 m.bats[k].epoch, .int .i64 m.bats[k].pid, .int .i64 m.bats[k].pidEpoch, .int .i64 m.bats[k].seq, .slice ra m.bats[k].recs.length rc] 50))) (HK.out.bats _ (List.getElem_mem hlt)))
      have hrl := hrecs.len
      unfold maxLen at hrl
      have HN := hid (HD.out.1.next ((Below.refl _ _).alloc (Nat.le_refl _) (.cells #[.int .i64 m.bats[k].base, .int .i64 m.bats[k].epoch, .int .i64 m.bats[k].pid, .int .i64 m.bats[k].pidEpoch, .int .i64 m.bats[k].seq, .slice ra m.bats[k].recs.length rc] 50)))
      have HS := hid (first_at rightL m.bats k hlt HD.out.2)
      have HT : Hid (rightL m.bats[k] = 0 → ∀ i (h : i < m.bats.length), i < k + 1 → rightL m.bats[i] = 0) := fun h0 i h hi => by
        rcases Nat.lt_or_ge i k with h1 | h1
        · exact HD.out.2 i h h1
        · have : i = k := by omega
          subst this; exact h0
      clear hrecs HD
      generalize m.bats[k] = X at *
      generalize rightL X = E at *
      by_cases hE : E = 0
      · have HT2 := hid (HT.out hE)
        subst hE
        go_wp2_with (go_at_call 45; refine HC.out.mono ?_; rintro e w2 ⟨rfl, hb2⟩)
        have X2 := hid (HN.out.next hb2)
        go_roundg (m.bats.length - (k + 1))
        case measure => omega
        case rel => exact ⟨k + 1, by omega, Nat.le_refl _, by go_num, X2.out, HT2.out⟩
      · have hne : (E != 0) = true := by simp [hE]
        have HG : Hid (rightP m = E) := by show _ = _; rw [HF.out, HS.out hE, if_neg hE]
        clear hE
        go_wp2_with (go_at_call 45; refine HC.out.mono ?_; rintro e w2 ⟨rfl, hb2⟩)
        go_ret
        exact ⟨ret_int HG.out.symm, (HN.out.next hb2).below⟩
    · have hlt' : ¬ (k : Int) < (m.bats.length : Int) := by omega
      have HG : Hid (rightP m = firstE (m.ents.map entRight)) := by
        show _ = _
        rw [HF.out, if_pos (first_none rightL m.bats (fun i h => HD.out.2 i h (by omega)))]
      have c19 := cell_blk HD.out.1.box 19 (.slice ea m.ents.length ec) rfl
      have Y1 := hid HD.out.1
      clear HD hlt
      go_wp2
      clear c19
      go_loopg [51] m.ents.length (fun kx s51 wr => ∃ k : Nat, k ≤ m.ents.length ∧ m.ents.length - k ≤ kx ∧ s51 = .int .i64 k ∧ Hid (Boxed w wr (.cells #[.int .i64 m.kind, .int .i64 m.n0, .int .i64 m.n1, .int .i64 m.n2, .int .i64 m.n3, .int .i64 m.n4, .int .i64 m.n5, .int .i64 m.n6, .int .i64 m.n7, .int .i64 m.n8, .int .i64 m.n9, .int .i64 m.n10, .int .i64 m.n11, .int .i64 m.n12, .int .i64 m.n13, .int .i64 m.err, .string (strOf m.name), .string (strOf m.text), .slice ba m.bats.length bc, .slice ea m.ents.length ec, .slice ia m.ints.length ic] 27) ∧ ∀ i (h : i < m.ents.length), i < k → entRight m.ents[i] = 0))
      case atStart => exact ⟨0, by omega, by omega, rfl, Y1.out, fun i h h0 => by omega⟩
      case round =>
        obtain ⟨j, hj, hjx, rfl, HD⟩ := hrel
        clear Y1
        by_cases hlt : j < m.ents.length
        · have hltj' : (j : Int) < (m.ents.length : Int) := by omega
          obtain ⟨b, off, rfl, c0, c1, c2⟩ := (HH.out.ents.under HD.out.1.below).at j hlt
          have HC := hid (fun W => rightEntry_any m.ents[j] (HK.out.ents _ (List.getElem_mem hlt)) W)
          have HN := hid (HD.out.1.next ((Below.refl _ _).alloc (Nat.le_refl _) (.cells #[.int .i64 m.ents[j].term, .int .i64 m.ents[j].index, .string (strOf m.ents[j].data)] 52)))
          have HS := hid (first_at entRight m.ents j hlt HD.out.2)
          have HT : Hid (entRight m.ents[j] = 0 → ∀ i (h : i < m.ents.length), i < j + 1 → entRight m.ents[i] = 0) := fun h0 i h hi => by
            rcases Nat.lt_or_ge i j with h1 | h1
            · exact HD.out.2 i h h1
            · have : i = j := by omega
              subst this; exact h0
          clear HD
          generalize m.ents[j] = X at *
          generalize entRight X = E at *
          by_cases hE : E = 0
          · have HT2 := hid (HT.out hE)
            subst hE
            go_wp2_with (go_at_call 46; refine (HC.out _).mono ?_; rintro e w2 ⟨rfl, hb2⟩)
            have X2 := hid (HN.out.next hb2)
            go_roundg (m.ents.length - (j + 1))
            case measure => omega
            case rel => exact ⟨j + 1, by omega, Nat.le_refl _, by go_num, X2.out, HT2.out⟩
          · have hne : (E != 0) = true := by simp [hE]
            have HG2 : Hid (rightP m = E) := by show _ = _; rw [HG.out, HS.out hE]
            clear hE
            go_wp2_with (go_at_call 46; refine (HC.out _).mono ?_; rintro e w2 ⟨rfl, hb2⟩)
            go_ret
            exact ⟨ret_int HG2.out.symm, (HN.out.next hb2).below⟩
        · have hltj' : ¬ (j : Int) < (m.ents.length : Int) := by omega
          have HG2 : Hid (rightP m = 0) := by
            show _ = _
            rw [HG.out, first_none entRight m.ents (fun i h => HD.out.2 i h (by omega))]
          go_wp2
          go_ret
          exact ⟨ret_int HG2.out.symm, HD.out.1.below⟩
end Go.Proofs.YtocdlaoklagdoaaDoor
