/- Batches in memory: their records, row by row; what looks at them: rightTimes, hasLongText. -/
import Derived.Test.YtkdbclnnmpnfgaaH1
namespace Go.Proofs.Ytkdbclnnmpnfgaa
open Go.RowKit Go.Maps
set_option linter.unusedSimpArgs false
set_option linter.unusedVariables false
set_option maxRecDepth 100000

def Rec.ok (r : Rec) : Prop := I64 r.time ∧ r.key.length ≤ maxLen ∧ r.val.length ≤ maxLen
def RecCells (w : World) (b o : Nat) (r : Rec) : Prop := w.cell? ⟨b, o, none⟩ = some (.string (strOf r.key)) ∧ w.cell? ⟨b, o + 1, none⟩ = some (.string (strOf r.val)) ∧ w.cell? ⟨b, o + 2, none⟩ = some (.int .i64 r.time)
def RecsAt (w : World) (a : Option Addr) (rs : List Rec) : Prop := rs = [] ∨ ∃ b off, a = some ⟨b, off, none⟩ ∧ b < w.heap.size ∧ ∀ i (h : i < rs.length), RecCells w b (off + i * 3) rs[i]
/-- A slice of records that is there. -/
structure Recs (w : World) (v : Value) (rs : List Rec) : Prop where
  shape : ∃ a cap, v = .slice a rs.length cap ∧ RecsAt w a rs
  ok : ∀ r ∈ rs, r.ok
  len : rs.length ≤ maxLen

theorem RecCells.under {w w' : World} {b o : Nat} {r : Rec} (h : RecCells w b o r) (e : w'.heap[b]? = w.heap[b]?) : RecCells w' b o r := by
  obtain ⟨h0, h1, h2⟩ := h
  exact ⟨(World.cell?_of_block (a := ⟨b, o, none⟩) e).trans h0, (World.cell?_of_block (a := ⟨b, o + 1, none⟩) e).trans h1, (World.cell?_of_block (a := ⟨b, o + 2, none⟩) e).trans h2⟩
theorem RecsAt.under {w w' : World} {a : Option Addr} {rs : List Rec} (h : RecsAt w a rs) (hb : Below w.heap.size w w') : RecsAt w' a rs := by
  rcases h with h | ⟨b, off, e, hl, hc⟩
  · exact .inl h
  · exact .inr ⟨b, off, e, Nat.lt_of_lt_of_le hl hb.size, fun i hi => (hc i hi).under (hb.block b hl)⟩
theorem Recs.under {w w' : World} {v : Value} {rs : List Rec} (h : Recs w v rs) (hb : Below w.heap.size w w') : Recs w' v rs := by
  obtain ⟨a, cap, e, ha⟩ := h.shape
  exact ⟨⟨a, cap, e, ha.under hb⟩, h.ok, h.len⟩
theorem Recs.at {w : World} {a : Option Addr} {cap : Nat} {rs : List Rec} (h : RecsAt w a rs) (k : Nat) (hk : k < rs.length) : ∃ b off, a = some ⟨b, off, none⟩ ∧ b < w.heap.size ∧ RecCells w b (off + k * 3) rs[k] := by
  rcases h with h | ⟨b, off, e, hl, hc⟩
  · subst h; simp at hk
  · exact ⟨b, off, e, hl, hc k hk⟩

theorem take_all (p : Rec → Bool) (l : List Rec) (k : Nat) (h : k < l.length) : (l.take (k + 1)).all p = ((l.take k).all p && p l[k]) := by
  rw [List.take_succ_eq_append_getElem h, List.all_append]; simp
theorem take_any (p : Rec → Bool) (l : List Rec) (k : Nat) (h : k < l.length) : (l.take (k + 1)).any p = ((l.take k).any p || p l[k]) := by
  rw [List.take_succ_eq_append_getElem h, List.any_append]; simp
theorem all_no (p : Rec → Bool) (l : List Rec) (k : Nat) (h : k < l.length) (hp : p l[k] = false) : l.all p = false := by
  rw [List.all_eq_false]; exact ⟨l[k], List.getElem_mem h, by simp [hp]⟩
theorem any_yes (p : Rec → Bool) (l : List Rec) (k : Nat) (h : k < l.length) (hp : p l[k] = true) : l.any p = true := by
  rw [List.any_eq_true]; exact ⟨l[k], List.getElem_mem h, hp⟩

set_option maxHeartbeats 800000 in
theorem rightTimes_any {w : World} {v : Value} {rs : List Rec} (h : Recs w v rs) :
    Calls Try.prog 56 #[v] w fun e w' => e = .returned (.bool (timesB rs)) ∧ Below w.heap.size w w' := by
  obtain ⟨a, cap, rfl, ha⟩ := h.shape
  have hok := hid h.ok
  have hlen := h.len
  unfold maxLen at hlen
  have HA := hid ha
  clear h ha
  go_enter Try.func56, Try.ntmps56
  go_wp2
  go_loopg [7] rs.length (fun kx s7 wr => ∃ k : Nat, k ≤ rs.length ∧ rs.length - k ≤ kx ∧ s7 = .int .i64 k ∧ Hid (Below w.heap.size w wr ∧ (rs.take k).all (fun r => inB r.time) = true))
  case atStart => exact ⟨0, by omega, by omega, rfl, Below.refl _ _, by simp⟩
  case round =>
    obtain ⟨k, hk, hkx, rfl, HD⟩ := hrel
    by_cases hlt : k < rs.length
    · have hlt' : (k : Int) < (rs.length : Int) := by omega
      obtain ⟨b, off, rfl, hbl, hc0, hc1, hc2⟩ := Recs.at (cap := cap) (HA.out.under HD.out.1) k hlt
      have hs := HD.out.1.size
      obtain ⟨⟨ht1, ht2⟩, ht3, ht4⟩ := hok.out rs[k] (List.getElem_mem hlt)
      unfold maxLen at ht3 ht4
      have hsn := hid (take_all (fun r => inB r.time) rs k hlt)
      have hno := hid (all_no (fun r => inB r.time) rs k hlt)
      generalize rs[k].time = T at *
      generalize strOf rs[k].key = K at *
      generalize strOf rs[k].val = V at *
      by_cases h1 : T < 0
      · have HF : Hid (timesB rs = false) := hno.out (by rw [Bool.eq_false_iff]; intro h; rw [inB_iff] at h; omega)
        go_wp2
        go_ret
        exact ⟨ret_bool HF.out.symm, HD.out.1.alloc hs _⟩
      · by_cases h2 : 1000000000 < T
        · have HF : Hid (timesB rs = false) := hno.out (by rw [Bool.eq_false_iff]; intro h; rw [inB_iff] at h; omega)
          go_wp2
          go_ret
          exact ⟨ret_bool HF.out.symm, HD.out.1.alloc hs _⟩
        · have HF : Hid ((rs.take (k + 1)).all (fun r => inB r.time) = true) := by
            show _ = _
            rw [hsn.out, HD.out.2, (inB_iff T).2 ⟨by omega, by omega⟩]
            rfl
          go_wp2
          go_roundg (rs.length - (k + 1))
          case measure => omega
          case rel => exact ⟨k + 1, by omega, Nat.le_refl _, by go_num, HD.out.1.alloc hs _, HF.out⟩
    · have hlt' : ¬ (k : Int) < (rs.length : Int) := by omega
      have he : rs.take k = rs := List.take_of_length_le (by omega)
      have HE := hid HD.out.2
      rw [he] at HE
      clear he
      go_wp2
      go_ret
      exact ⟨ret_bool (by exact HE.out.symm), HD.out.1⟩

set_option maxHeartbeats 800000 in
theorem hasLong_any {w : World} {v : Value} {rs : List Rec} (h : Recs w v rs) :
    Calls Try.prog 57 #[v] w fun e w' => e = .returned (.bool (longB rs)) ∧ Below w.heap.size w w' := by
  obtain ⟨a, cap, rfl, ha⟩ := h.shape
  have hok := hid h.ok
  have hlen := h.len
  unfold maxLen at hlen
  have HA := hid ha
  clear h ha
  go_enter Try.func57, Try.ntmps57
  go_wp2
  go_loopg [7] rs.length (fun kx s7 wr => ∃ k : Nat, k ≤ rs.length ∧ rs.length - k ≤ kx ∧ s7 = .int .i64 k ∧ Hid (Below w.heap.size w wr ∧ (rs.take k).any (fun r => decide (1000 < r.key.length) || decide (1000 < r.val.length)) = false))
  case atStart => exact ⟨0, by omega, by omega, rfl, Below.refl _ _, by simp⟩
  case round =>
    obtain ⟨k, hk, hkx, rfl, HD⟩ := hrel
    by_cases hlt : k < rs.length
    · have hlt' : (k : Int) < (rs.length : Int) := by omega
      obtain ⟨b, off, rfl, hbl, hc0, hc1, hc2⟩ := Recs.at (cap := cap) (HA.out.under HD.out.1) k hlt
      have hs := HD.out.1.size
      obtain ⟨⟨ht1, ht2⟩, ht3, ht4⟩ := hok.out rs[k] (List.getElem_mem hlt)
      unfold maxLen at ht3 ht4
      have hsn := hid (take_any (fun r => decide (1000 < r.key.length) || decide (1000 < r.val.length)) rs k hlt)
      have hno := hid (any_yes (fun r => decide (1000 < r.key.length) || decide (1000 < r.val.length)) rs k hlt)
      generalize rs[k].time = T at *
      generalize rs[k].key = K at *
      generalize rs[k].val = V at *
      by_cases h1 : 1000 < K.length
      · have h1' : 1000 < ((strOf K).size : Int) := by rw [strOf_size]; omega
        have HF : Hid (longB rs = true) := hno.out (by simp [h1])
        go_wp2
        go_ret
        exact ⟨ret_bool HF.out.symm, HD.out.1.alloc hs _⟩
      · have h1' : ¬ 1000 < ((strOf K).size : Int) := by rw [strOf_size]; omega
        by_cases h2 : 1000 < V.length
        · have h2' : 1000 < ((strOf V).size : Int) := by rw [strOf_size]; omega
          have HF : Hid (longB rs = true) := hno.out (by simp [h2])
          go_wp2
          go_ret
          exact ⟨ret_bool HF.out.symm, HD.out.1.alloc hs _⟩
        · have h2' : ¬ 1000 < ((strOf V).size : Int) := by rw [strOf_size]; omega
          have HF : Hid ((rs.take (k + 1)).any (fun r => decide (1000 < r.key.length) || decide (1000 < r.val.length)) = false) := by
            show _ = _
            rw [hsn.out, HD.out.2]
            simp [h1, h2]
          go_wp2
          go_roundg (rs.length - (k + 1))
          case measure => omega
          case rel => exact ⟨k + 1, by omega, Nat.le_refl _, by go_num, HD.out.1.alloc hs _, HF.out⟩
    · have hlt' : ¬ (k : Int) < (rs.length : Int) := by omega
      have he : rs.take k = rs := List.take_of_length_le (by omega)
      have HE := hid HD.out.2
      rw [he] at HE
      clear he
      go_wp2
      go_ret
      exact ⟨ret_bool (by exact HE.out.symm), HD.out.1⟩

end Go.Proofs.Ytkdbclnnmpnfgaa

/- A batch's numbers: batchNumbers, rightNumbers, goesOver. -/
namespace Go.Proofs.Ytkdbclnnmpnfgaa
open Go.RowKit Go.Maps
set_option linter.unusedSimpArgs false
set_option linter.unusedVariables false
set_option maxRecDepth 100000

def batV (b : Bat) (rv : Value) : Value := .agg #[.int .i64 b.base, .int .i64 b.epoch, .int .i64 b.pid, .int .i64 b.pidEpoch, .int .i64 b.seq, rv]
/-- A batch's numbers are ints. -/
structure Bat.ints (b : Bat) : Prop where
  h0 : I64 b.base
  h1 : I64 b.epoch
  h2 : I64 b.pid
  h3 : I64 b.pidEpoch
  h4 : I64 b.seq

theorem numbers_any (a0 a1 a2 a3 a4 : Int) (s : Option Addr) (n c : Nat) (w : World) :
    Calls Try.prog 76 #[.agg #[.int .i64 a0, .int .i64 a1, .int .i64 a2, .int .i64 a3, .int .i64 a4, .slice s n c]] w fun e w' => e = .returned (.agg #[.int .i64 a0, .int .i64 a1, .int .i64 a2, .int .i64 a3, .int .i64 a4]) ∧ Below w.heap.size w w' := by
  go_enter Try.func76, Try.ntmps76
  go_wp2
  refine bodyPost_ret (v := .agg #[.int .i64 a0, .int .i64 a1, .int .i64 a2, .int .i64 a3, .int .i64 a4]) (by simp [results, Try.results76, go_sem]) rfl ⟨rfl, ?_⟩
  exact ((Below.refl _ _).alloc (Nat.le_refl _) _).alloc (by simp) _

theorem over_any {w : World} (b : Bat) (s : Option Addr) (c : Nat) (hl : b.recs.length ≤ maxLen) :
    Calls Try.prog 58 #[.agg #[.int .i64 b.base, .int .i64 b.epoch, .int .i64 b.pid, .int .i64 b.pidEpoch, .int .i64 b.seq, .slice s b.recs.length c]] w fun e w' => e = .returned (.bool (overB b)) ∧ Below w.heap.size w w' := by
  unfold maxLen at hl
  have HO : Hid (overB b = (decide (1000000000 - ((b.recs.length : Int) - 1) < b.base) || decide (1000000 - ((b.recs.length : Int) - 1) < b.seq))) := rfl
  obtain ⟨a0, a1, a2, a3, a4, rs⟩ := b
  simp only at *
  by_cases h1 : 1000000000 - ((rs.length : Int) - 1) < a0
  · go_enter Try.func58, Try.ntmps58
    go_wp2
    go_ret
    exact ⟨ret_bool (by rw [HO.out]; simp [h1]), (Below.refl _ _).alloc (Nat.le_refl _) _⟩
  · by_cases h2 : 1000000 - ((rs.length : Int) - 1) < a4
    · go_enter Try.func58, Try.ntmps58
      go_wp2
      go_ret
      exact ⟨ret_bool (by rw [HO.out]; simp [h2]), (Below.refl _ _).alloc (Nat.le_refl _) _⟩
    · go_enter Try.func58, Try.ntmps58
      go_wp2
      go_ret
      exact ⟨ret_bool (by rw [HO.out]; simp [h1, h2]), (Below.refl _ _).alloc (Nat.le_refl _) _⟩

theorem ix0 (a0 a1 a2 a3 a4 : Int) (w : World) : (Instr.index 111 (.agg #[.int .i64 a0, .int .i64 a1, .int .i64 a2, .int .i64 a3, .int .i64 a4]) (.int .i64 0)).run Try.prog w = .ok (.int .i64 a0) w := by kernel_rfl
theorem ix1 (a0 a1 a2 a3 a4 : Int) (w : World) : (Instr.index 111 (.agg #[.int .i64 a0, .int .i64 a1, .int .i64 a2, .int .i64 a3, .int .i64 a4]) (.int .i64 1)).run Try.prog w = .ok (.int .i64 a1) w := by kernel_rfl
theorem ix2 (a0 a1 a2 a3 a4 : Int) (w : World) : (Instr.index 111 (.agg #[.int .i64 a0, .int .i64 a1, .int .i64 a2, .int .i64 a3, .int .i64 a4]) (.int .i64 2)).run Try.prog w = .ok (.int .i64 a2) w := by kernel_rfl
theorem ix3 (a0 a1 a2 a3 a4 : Int) (w : World) : (Instr.index 111 (.agg #[.int .i64 a0, .int .i64 a1, .int .i64 a2, .int .i64 a3, .int .i64 a4]) (.int .i64 3)).run Try.prog w = .ok (.int .i64 a3) w := by kernel_rfl
theorem ix4 (a0 a1 a2 a3 a4 : Int) (w : World) : (Instr.index 111 (.agg #[.int .i64 a0, .int .i64 a1, .int .i64 a2, .int .i64 a3, .int .i64 a4]) (.int .i64 4)).run Try.prog w = .ok (.int .i64 a4) w := by kernel_rfl
theorem index70 (a0 a1 a2 a3 a4 : Int) (k : Nat) (hk : k < 5) (w : World) : (Instr.index 111 (.agg #[.int .i64 a0, .int .i64 a1, .int .i64 a2, .int .i64 a3, .int .i64 a4]) (.int .i64 (k : Int))).run Try.prog w = .ok (.int .i64 ([a0, a1, a2, a3, a4].getD k 0)) w := by
  match k, hk with
  | 0, _ => exact ix0 a0 a1 a2 a3 a4 w
  | 1, _ => exact ix1 a0 a1 a2 a3 a4 w
  | 2, _ => exact ix2 a0 a1 a2 a3 a4 w
  | 3, _ => exact ix3 a0 a1 a2 a3 a4 w
  | 4, _ => exact ix4 a0 a1 a2 a3 a4 w

theorem box_cell {w w1 : World} {cs : Array Value} {T : TypeId} (hb : Below (w.alloc (.cells cs T)).heap.size (w.alloc (.cells cs T)) w1) (j : Nat) (u : Value) (hu : cs[j]? = some u) : w1.cell? ⟨w.heap.size, j, none⟩ = some u := by
  have h1 : w1.cell? ⟨w.heap.size, j, none⟩ = (w.alloc (.cells cs T)).cell? ⟨w.heap.size, j, none⟩ := hb.cell (p := ⟨w.heap.size, j, none⟩) (by simp)
  rw [h1]
  exact cell_new rfl hu
theorem box_below {w w1 : World} {o : Obj} (hb : Below (w.alloc o).heap.size (w.alloc o) w1) : Below w.heap.size w w1 := ((Below.refl _ w).alloc (Nat.le_refl _) o).trans (hb.mono (by simp))

def okN (k : Nat) (n : Int) : Prop := 0 ≤ n ∧ (0 < k → n ≤ 1000000000)
theorem numsB_no (b : Bat) (k : Nat) (hk : k < 5) (h : ¬ okN k ((numsOf b).getD k 0)) : numsB b = false := by
  rw [Bool.eq_false_iff]
  intro hb
  simp only [numsB, Bool.and_eq_true, decide_eq_true_eq, inB_iff] at hb
  obtain ⟨⟨⟨⟨⟨e1, e2⟩, e3⟩, e4⟩, e5⟩, _⟩ := hb
  apply h
  unfold okN numsOf
  match k, hk with
  | 0, _ => simp; omega
  | 1, _ => simp; omega
  | 2, _ => simp; omega
  | 3, _ => simp; omega
  | 4, _ => simp; omega
theorem numsB_yes (b : Bat) (h : ∀ k, k < 5 → okN k ((numsOf b).getD k 0)) : numsB b = (!(b.pid == 0) || (b.pidEpoch == 0 && b.seq == 0)) := by
  have g0 := h 0 (by omega)
  have g1 := h 1 (by omega)
  have g2 := h 2 (by omega)
  have g3 := h 3 (by omega)
  have g4 := h 4 (by omega)
  simp [okN, numsOf] at g0 g1 g2 g3 g4
  have e0 : decide (0 ≤ b.base) = true := by simp; omega
  have e1 := (inB_iff b.epoch).2 g1
  have e2 := (inB_iff b.pid).2 g2
  have e3 := (inB_iff b.pidEpoch).2 g3
  have e4 := (inB_iff b.seq).2 g4
  simp only [numsB, e0, e1, e2, e3, e4, Bool.true_and]

set_option maxHeartbeats 800000 in
theorem rightNums_any {w : World} (b : Bat) (s : Option Addr) (n c : Nat) (hi : b.ints) :
    Calls Try.prog 55 #[.agg #[.int .i64 b.base, .int .i64 b.epoch, .int .i64 b.pid, .int .i64 b.pidEpoch, .int .i64 b.seq, .slice s n c]] w fun e w' => e = .returned (.bool (numsB b)) ∧ Below w.heap.size w w' := by
  have hno := hid (numsB_no b)
  have hyes := hid (numsB_yes b)
  obtain ⟨A, hA⟩ : ∃ A : List Int, A = numsOf b := ⟨_, rfl⟩
  have HX : Hid (∀ (k : Nat), k < 5 → ∀ w, (Instr.index 111 (.agg #[.int .i64 b.base, .int .i64 b.epoch, .int .i64 b.pid, .int .i64 b.pidEpoch, .int .i64 b.seq]) (.int .i64 (k : Int))).run Try.prog w = .ok (.int .i64 (A.getD k 0)) w) := fun k hk w => by
    rw [hA]; exact index70 _ _ _ _ _ k hk w
  rw [← hA] at hno hyes
  clear hA hi
  generalize numsB b = R at *
  obtain ⟨a0, a1, a2, a3, a4, rs⟩ := b
  simp only at *
  go_enter Try.func55, Try.ntmps55
  go_wp2_with (go_at_call 76; refine (numbers_any _ _ _ _ _ _ _ _ _).mono ?_; rintro e w1 ⟨rfl, hb1⟩)
  have c2 := box_cell hb1 2 _ rfl
  have c3 := box_cell hb1 3 _ rfl
  have c4 := box_cell hb1 4 _ rfl
  have HB := hid (box_below hb1)
  clear hb1
  go_loop [7] (fun i => ∃ k : Nat, k ≤ 5 ∧ i = .int .i64 k ∧ Hid (∀ j, j < k → okN j (A.getD j 0))) (fun i => 5 - (intOf i).toNat)
  case atStart => exact ⟨0, by omega, rfl, fun j hj => by omega⟩
  case round =>
    obtain ⟨k, hk, rfl, HD⟩ := hrel
    by_cases hlt : k < 5
    · have hlt' : (k : Int) < 5 := by omega
      have hX := HX.out k hlt
      have hNO := hid (hno.out k hlt)
      have HS : Hid (okN k (A.getD k 0) → ∀ j, j < k + 1 → okN j (A.getD j 0)) := fun h j hj => by
        rcases Nat.lt_or_ge j k with h1 | h1
        · exact HD.out j h1
        · have : j = k := by omega
          subst this; exact h
      generalize A.getD k 0 = N at *
      by_cases h1 : N < 0
      · have HF : Hid (R = false) := hNO.out (fun h => by have := h.1; omega)
        go_wp2
        go_ret
        exact ⟨ret_bool HF.out.symm, HB.out⟩
      · by_cases h0 : 0 < k
        · have h0' : 0 < (k : Int) := by omega
          by_cases h2 : 1000000000 < N
          · have HF : Hid (R = false) := hNO.out (fun h => by have := h.2 h0; omega)
            go_wp2
            go_ret
            exact ⟨ret_bool HF.out.symm, HB.out⟩
          · have HF := hid (HS.out ⟨by omega, fun _ => by omega⟩)
            go_wp2
            go_round
            case rel => exact ⟨k + 1, by omega, by go_num, HF⟩
            case measure => simp [intOf]; omega
        · have h0' : ¬ 0 < (k : Int) := by omega
          have HF := hid (HS.out ⟨by omega, fun h => by omega⟩)
          clear h0
          go_wp2
          go_round
          case rel => exact ⟨k + 1, by omega, by go_num, HF⟩
          case measure => simp [intOf]; omega
    · have hlt' : ¬ (k : Int) < 5 := by omega
      have HF := hid (hyes.out (fun j hj => HD.out j (by omega)))
      by_cases p1 : a2 = 0
      · have p1' : (a2 == 0) = true := by simp [p1]
        have p1n : (a2 != 0) = false := by simp [p1]
        by_cases p2 : a3 = 0
        · have p2' : (a3 == 0) = true := by simp [p2]
          by_cases p3 : a4 = 0
          · have p3' : (a4 == 0) = true := by simp [p3]
            have HG := hid HF.out
            rw [p1', p2', p3'] at HG
            clear p1 p2 p3
            go_wp2
            go_ret
            exact ⟨ret_bool (by rw [HG.out]; rfl), HB.out⟩
          · have p3' : (a4 == 0) = false := by simp [p3]
            have HG := hid HF.out
            rw [p1', p2', p3'] at HG
            clear p1 p2 p3
            go_wp2
            go_ret
            exact ⟨ret_bool (by rw [HG.out]; rfl), HB.out⟩
        · have p2' : (a3 == 0) = false := by simp [p2]
          have HG := hid HF.out
          rw [p1', p2'] at HG
          clear p1 p2
          go_wp2
          go_ret
          exact ⟨ret_bool (by rw [HG.out]; rfl), HB.out⟩
      · have p1' : (a2 == 0) = false := by simp [p1]
        have p1n : (a2 != 0) = true := by simp [p1]
        have HG := hid HF.out
        rw [p1'] at HG
        clear p1
        go_wp2
        go_ret
        exact ⟨ret_bool (by rw [HG.out]; rfl), HB.out⟩
end Go.Proofs.Ytkdbclnnmpnfgaa

