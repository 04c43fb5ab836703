/- A batch's numbers: batchNumbers, rightNumbers, goesOver. -/
import Derived.Test.YtlgaianlkbaedaaH2
import Derived.Lib.AppendStr
namespace Go.Proofs.Ytlgaianlkbaedaa
open Go.RowKit Go.Maps
set_option linter.unusedSimpArgs false
set_option linter.unusedVariables false
set_option maxRecDepth 100000

def batV (b : Bat) (rv : Value) : Value := .agg #[.int .i64 b.base, .int .i64 b.epoch, .int .i64 b.pid, .int .i64 b.pidEpoch, .int .i64 b.seq, rv]
/-- A batch's numbers are ints. -/
structure Bat.ints (b : Bat) : Prop where
  h0 : I64 b.base
  h1 : I64 b.epoch
  h2 : I64 b.pid
  h3 : I64 b.pidEpoch
  h4 : I64 b.seq

theorem numbers_any (a0 a1 a2 a3 a4 : Int) (s : Option Addr) (n c : Nat) (w : World) :
    Calls Try.prog 64 #[.agg #[.int .i64 a0, .int .i64 a1, .int .i64 a2, .int .i64 a3, .int .i64 a4, .slice s n c]] w fun e w' => e = .returned (.agg #[.int .i64 a0, .int .i64 a1, .int .i64 a2, .int .i64 a3, .int .i64 a4]) ∧ Below w.heap.size w w' := by
  go_enter Try.func64, Try.ntmps64
  go_wp2
  refine bodyPost_ret (v := .agg #[.int .i64 a0, .int .i64 a1, .int .i64 a2, .int .i64 a3, .int .i64 a4]) (by simp [results, Try.results64, go_sem]) rfl ⟨rfl, ?_⟩
  exact ((Below.refl _ _).alloc (Nat.le_refl _) _).alloc (by simp) _

theorem over_any {w : World} (b : Bat) (s : Option Addr) (c : Nat) (hl : b.recs.length ≤ maxLen) :
    Calls Try.prog 63 #[.agg #[.int .i64 b.base, .int .i64 b.epoch, .int .i64 b.pid, .int .i64 b.pidEpoch, .int .i64 b.seq, .slice s b.recs.length c]] w fun e w' => e = .returned (.bool (overB b)) ∧ Below w.heap.size w w' := by
  unfold maxLen at hl
  have HO : Hid (overB b = (decide (1000000000 - ((b.recs.length : Int) - 1) < b.base) || decide (1000000 - ((b.recs.length : Int) - 1) < b.seq))) := rfl
  obtain ⟨a0, a1, a2, a3, a4, rs⟩ := b
  simp only at *
  by_cases h1 : 1000000000 - ((rs.length : Int) - 1) < a0
  · go_enter Try.func63, Try.ntmps63
    go_wp2
    go_ret
    exact ⟨ret_bool (by rw [HO.out]; simp [h1]), (Below.refl _ _).alloc (Nat.le_refl _) _⟩
  · by_cases h2 : 1000000 - ((rs.length : Int) - 1) < a4
    · go_enter Try.func63, Try.ntmps63
      go_wp2
      go_ret
      exact ⟨ret_bool (by rw [HO.out]; simp [h2]), (Below.refl _ _).alloc (Nat.le_refl _) _⟩
    · go_enter Try.func63, Try.ntmps63
      go_wp2
      go_ret
      exact ⟨ret_bool (by rw [HO.out]; simp [h1, h2]), (Below.refl _ _).alloc (Nat.le_refl _) _⟩

theorem ix0 (a0 a1 a2 a3 a4 : Int) (w : World) : (Instr.index 105 (.agg #[.int .i64 a0, .int .i64 a1, .int .i64 a2, .int .i64 a3, .int .i64 a4]) (.int .i64 0)).run Try.prog w = .ok (.int .i64 a0) w := by kernel_rfl
theorem ix1 (a0 a1 a2 a3 a4 : Int) (w : World) : (Instr.index 105 (.agg #[.int .i64 a0, .int .i64 a1, .int .i64 a2, .int .i64 a3, .int .i64 a4]) (.int .i64 1)).run Try.prog w = .ok (.int .i64 a1) w := by kernel_rfl
theorem ix2 (a0 a1 a2 a3 a4 : Int) (w : World) : (Instr.index 105 (.agg #[.int .i64 a0, .int .i64 a1, .int .i64 a2, .int .i64 a3, .int .i64 a4]) (.int .i64 2)).run Try.prog w = .ok (.int .i64 a2) w := by kernel_rfl
theorem ix3 (a0 a1 a2 a3 a4 : Int) (w : World) : (Instr.index 105 (.agg #[.int .i64 a0, .int .i64 a1, .int .i64 a2, .int .i64 a3, .int .i64 a4]) (.int .i64 3)).run Try.prog w = .ok (.int .i64 a3) w := by kernel_rfl
theorem ix4 (a0 a1 a2 a3 a4 : Int) (w : World) : (Instr.index 105 (.agg #[.int .i64 a0, .int .i64 a1, .int .i64 a2, .int .i64 a3, .int .i64 a4]) (.int .i64 4)).run Try.prog w = .ok (.int .i64 a4) w := by kernel_rfl
theorem index70 (a0 a1 a2 a3 a4 : Int) (k : Nat) (hk : k < 5) (w : World) : (Instr.index 105 (.agg #[.int .i64 a0, .int .i64 a1, .int .i64 a2, .int .i64 a3, .int .i64 a4]) (.int .i64 (k : Int))).run Try.prog w = .ok (.int .i64 ([a0, a1, a2, a3, a4].getD k 0)) w := by
  match k, hk with
  | 0, _ => exact ix0 a0 a1 a2 a3 a4 w
  | 1, _ => exact ix1 a0 a1 a2 a3 a4 w
  | 2, _ => exact ix2 a0 a1 a2 a3 a4 w
  | 3, _ => exact ix3 a0 a1 a2 a3 a4 w
  | 4, _ => exact ix4 a0 a1 a2 a3 a4 w

theorem box_cell {w w1 : World} {cs : Array Value} {T : TypeId} (hb : Below (w.alloc (.cells cs T)).heap.size (w.alloc (.cells cs T)) w1) (j : Nat) (u : Value) (hu : cs[j]? = some u) : w1.cell? ⟨w.heap.size, j, none⟩ = some u := by
  have h1 : w1.cell? ⟨w.heap.size, j, none⟩ = (w.alloc (.cells cs T)).cell? ⟨w.heap.size, j, none⟩ := hb.cell (p := ⟨w.heap.size, j, none⟩) (by simp)
  rw [h1]
  exact cell_new rfl hu
theorem box_below {w w1 : World} {o : Obj} (hb : Below (w.alloc o).heap.size (w.alloc o) w1) : Below w.heap.size w w1 := ((Below.refl _ w).alloc (Nat.le_refl _) o).trans (hb.mono (by simp))

def okN (k : Nat) (n : Int) : Prop := 0 ≤ n ∧ (0 < k → n ≤ 1000000000)
theorem numsB_no (b : Bat) (k : Nat) (hk : k < 5) (h : ¬ okN k ((numsOf b).getD k 0)) : numsB b = false := by
  rw [Bool.eq_false_iff]
  intro hb
  simp only [numsB, Bool.and_eq_true, decide_eq_true_eq, inB_iff] at hb
  obtain ⟨⟨⟨⟨⟨e1, e2⟩, e3⟩, e4⟩, e5⟩, _⟩ := hb
  apply h
  unfold okN numsOf
  match k, hk with
  | 0, _ => simp; omega
  | 1, _ => simp; omega
  | 2, _ => simp; omega
  | 3, _ => simp; omega
  | 4, _ => simp; omega
theorem numsB_yes (b : Bat) (h : ∀ k, k < 5 → okN k ((numsOf b).getD k 0)) : numsB b = (!(b.pid == 0) || (b.pidEpoch == 0 && b.seq == 0)) := by
  have g0 := h 0 (by omega)
  have g1 := h 1 (by omega)
  have g2 := h 2 (by omega)
  have g3 := h 3 (by omega)
  have g4 := h 4 (by omega)
  simp [okN, numsOf] at g0 g1 g2 g3 g4
  have e0 : decide (0 ≤ b.base) = true := by simp; omega
  have e1 := (inB_iff b.epoch).2 g1
  have e2 := (inB_iff b.pid).2 g2
  have e3 := (inB_iff b.pidEpoch).2 g3
  have e4 := (inB_iff b.seq).2 g4
  simp only [numsB, e0, e1, e2, e3, e4, Bool.true_and]

set_option maxHeartbeats 800000 in
theorem rightNums_any {w : World} (b : Bat) (s : Option Addr) (n c : Nat) (hi : b.ints) :
    Calls Try.prog 60 #[.agg #[.int .i64 b.base, .int .i64 b.epoch, .int .i64 b.pid, .int .i64 b.pidEpoch, .int .i64 b.seq, .slice s n c]] w fun e w' => e = .returned (.bool (numsB b)) ∧ Below w.heap.size w w' := by
  have hno := hid (numsB_no b)
  have hyes := hid (numsB_yes b)
  obtain ⟨A, hA⟩ : ∃ A : List Int, A = numsOf b := ⟨_, rfl⟩
  have HX : Hid (∀ (k : Nat), k < 5 → ∀ w, (Instr.index 105 (.agg #[.int .i64 b.base, .int .i64 b.epoch, .int .i64 b.pid, .int .i64 b.pidEpoch, .int .i64 b.seq]) (.int .i64 (k : Int))).run Try.prog w = .ok (.int .i64 (A.getD k 0)) w) := fun k hk w => by
    rw [hA]; exact index70 _ _ _ _ _ k hk w
  rw [← hA] at hno hyes
  clear hA hi
  generalize numsB b = R at *
  obtain ⟨a0, a1, a2, a3, a4, rs⟩ := b
  simp only at *
  go_enter Try.func60, Try.ntmps60
  go_wp2_with (go_at_call 64; refine (numbers_any _ _ _ _ _ _ _ _ _).mono ?_; rintro e w1 ⟨rfl, hb1⟩)
  have c2 := box_cell hb1 2 _ rfl
  have c3 := box_cell hb1 3 _ rfl
  have c4 := box_cell hb1 4 _ rfl
  have HB := hid (box_below hb1)
  clear hb1
  go_loop [7] (fun i => ∃ k : Nat, k ≤ 5 ∧ i = .int .i64 k ∧ Hid (∀ j, j < k → okN j (A.getD j 0))) (fun i => 5 - (intOf i).toNat)
  case atStart => exact ⟨0, by omega, rfl, fun j hj => by omega⟩
  case round =>
    obtain ⟨k, hk, rfl, HD⟩ := hrel
    by_cases hlt : k < 5
    · have hlt' : (k : Int) < 5 := by omega
      have hX := HX.out k hlt
      have hNO := hid (hno.out k hlt)
      have HS : Hid (okN k (A.getD k 0) → ∀ j, j < k + 1 → okN j (A.getD j 0)) := fun h j hj => by
        rcases Nat.lt_or_ge j k with h1 | h1
        · exact HD.out j h1
        · have : j = k := by omega
          subst this; exact h
      generalize A.getD k 0 = N at *
      by_cases h1 : N < 0
      · have HF : Hid (R = false) := hNO.out (fun h => by have := h.1; omega)
        go_wp2
        go_ret
        exact ⟨ret_bool HF.out.symm, HB.out⟩
      · by_cases h0 : 0 < k
        · have h0' : 0 < (k : Int) := by omega
          by_cases h2 : 1000000000 < N
          · have HF : Hid (R = false) := hNO.out (fun h => by have := h.2 h0; omega)
            go_wp2
            go_ret
            exact ⟨ret_bool HF.out.symm, HB.out⟩
          · have HF := hid (HS.out ⟨by omega, fun _ => by omega⟩)
            go_wp2
            go_round
            case rel => exact ⟨k + 1, by omega, by go_num, HF⟩
            case measure => simp [intOf]; omega
        · have h0' : ¬ 0 < (k : Int) := by omega
          have HF := hid (HS.out ⟨by omega, fun h => by omega⟩)
          clear h0
          go_wp2
          go_round
          case rel => exact ⟨k + 1, by omega, by go_num, HF⟩
          case measure => simp [intOf]; omega
    · have hlt' : ¬ (k : Int) < 5 := by omega
      have HF := hid (hyes.out (fun j hj => HD.out j (by omega)))
      by_cases p1 : a2 = 0
      · have p1' : (a2 == 0) = true := by simp [p1]
        have p1n : (a2 != 0) = false := by simp [p1]
        by_cases p2 : a3 = 0
        · have p2' : (a3 == 0) = true := by simp [p2]
          by_cases p3 : a4 = 0
          · have p3' : (a4 == 0) = true := by simp [p3]
            have HG := hid HF.out
            rw [p1', p2', p3'] at HG
            clear p1 p2 p3
            go_wp2
            go_ret
            exact ⟨ret_bool (by rw [HG.out]; rfl), HB.out⟩
          · have p3' : (a4 == 0) = false := by simp [p3]
            have HG := hid HF.out
            rw [p1', p2', p3'] at HG
            clear p1 p2 p3
            go_wp2
            go_ret
            exact ⟨ret_bool (by rw [HG.out]; rfl), HB.out⟩
        · have p2' : (a3 == 0) = false := by simp [p2]
          have HG := hid HF.out
          rw [p1', p2'] at HG
          clear p1 p2
          go_wp2
          go_ret
          exact ⟨ret_bool (by rw [HG.out]; rfl), HB.out⟩
      · have p1' : (a2 == 0) = false := by simp [p1]
        have p1n : (a2 != 0) = true := by simp [p1]
        have HG := hid HF.out
        rw [p1'] at HG
        clear p1
        go_wp2
        go_ret
        exact ⟨ret_bool (by rw [HG.out]; rfl), HB.out⟩
end Go.Proofs.Ytlgaianlkbaedaa

/- What writes lists of ints, texts, a batch's body. -/
namespace Go.Proofs.Ytlgaianlkbaedaa
open Go.RowKit Go.Maps
set_option linter.unusedSimpArgs false
set_option linter.unusedVariables false
set_option maxRecDepth 100000

def IntsAt (w : World) (a : Option Addr) (B : Nat) (ns : List Int) : Prop := ns = [] ∨ ∃ b off, a = some ⟨b, off, none⟩ ∧ b < B ∧ ∀ i (h : i < ns.length), w.cell? ⟨b, off + i, none⟩ = some (.int .i64 ns[i])
theorem IntsAt.under {w w' : World} {a : Option Addr} {B : Nat} {ns : List Int} (h : IntsAt w a B ns) (hb : Below B w w') : IntsAt w' a B ns := by
  rcases h with h | ⟨b, off, e, hl, hc⟩
  · exact .inl h
  · exact .inr ⟨b, off, e, hl, fun i hi => (World.cell?_of_block (a := ⟨b, off + i, none⟩) (hb.block b hl)).trans (hc i hi)⟩
theorem IntsAt.at {w : World} {a : Option Addr} {B : Nat} {ns : List Int} (h : IntsAt w a B ns) (k : Nat) (hk : k < ns.length) : ∃ b off, a = some ⟨b, off, none⟩ ∧ w.cell? ⟨b, off + k, none⟩ = some (.int .i64 ns[k]) := by
  rcases h with h | ⟨b, off, e, hl, hc⟩
  · subst h; simp at hk
  · exact ⟨b, off, e, hc k hk⟩

theorem ints_take (ns : List Int) (k : Nat) (h : k < ns.length) : intsL (ns.take (k + 1)) = intsL (ns.take k) ++ intL ns[k] := by
  rw [List.take_succ_eq_append_getElem h, intsL_snoc]

set_option maxHeartbeats 800000 in
theorem appendInts_any {w : World} {B : Nat} {v : Value} {l : List UInt8} (h : Row w B v l) (hB : B ≤ w.heap.size) (a : Option Addr) (cap : Nat) (ns : List Int) (ha : IntsAt w a B ns) (hi : ∀ n ∈ ns, I64 n) (hn : ns.length ≤ maxLen) (hl : l.length + ns.length * 10 ≤ 1000000000000) :
    Calls Try.prog 65 #[v, .slice a ns.length cap] w fun e w' => ∃ v', e = .returned v' ∧ Row w' B v' (l ++ intsL ns) ∧ Below B w w' ∧ Grow w w' v v' := by
  unfold maxLen at hn
  have HA := hid ha
  have HI := hid hi
  have H0 : Hid (Row w B v (l ++ intsL (ns.take 0)) ∧ Below B w w ∧ Grow w w v v) := ⟨by simpa [intsL] using h, .refl _ _, .refl _ _⟩
  clear h ha hi
  go_enter Try.func65, Try.ntmps65
  go_wp2
  go_loopg [0, 9] ns.length (fun kx s0 s9 wr => ∃ (k : Nat) (sv : Value), k ≤ ns.length ∧ ns.length - k ≤ kx ∧ s9 = .int .i64 k ∧ sv = s0 ∧ Hid (Row wr B sv (l ++ intsL (ns.take k)) ∧ Below B w wr ∧ Grow w wr v sv))
  case atStart => exact ⟨0, _, by omega, by omega, rfl, rfl, H0⟩
  case round =>
    obtain ⟨k, sv, hk, hkx, rfl, rfl, HD⟩ := hrel
    clear H0
    by_cases hlt : k < ns.length
    · have hlt' : (k : Int) < (ns.length : Int) := by omega
      obtain ⟨b, off, rfl, hc⟩ := (HA.out.under HD.out.2.1).at k hlt
      have hlen : (l ++ intsL (ns.take k)).length ≤ 1000000000000 := by
        have := intsL_length (ns.take k)
        have h2 : (ns.take k).length ≤ ns.length := by simp; omega
        simp only [List.length_append]; omega
      have HC := hid (appendInt_any HD.out.1 (Nat.le_trans hB HD.out.2.1.size) hlen ns[k] (HI.out _ (List.getElem_mem hlt)))
      have HT := hid (ints_take ns k hlt)
      clear hlen
      generalize ns[k] = N at *
      go_wp2_with (go_at_call 66; refine HC.out.mono ?_; rintro e w1 ⟨v', rfl, hrow, hb, hgr⟩)
      go_roundg (ns.length - (k + 1))
      case measure => omega
      case rel => exact ⟨k + 1, v', by omega, Nat.le_refl _, by go_num, rfl, by rw [HT.out, ← List.append_assoc]; exact hrow, HD.out.2.1.trans hb, HD.out.2.2.trans hgr⟩
    · have hlt' : ¬ (k : Int) < (ns.length : Int) := by omega
      have he : ns.take k = ns := List.take_of_length_le (by omega)
      have HE := hid HD.out
      rw [he] at HE
      clear he
      go_wp2
      go_ret
      exact ⟨_, rfl, HE.out⟩

theorem strCells_eq (l : List UInt8) : Lib.strCells (strOf l) = u8c l := by
  unfold Lib.strCells u8c
  rw [strOf_data]

/-- A string's bytes behind a row that is there: where the new row lies. -/
theorem append_text_at {w : World} {B ty : Nat} {i : TypeInfo} (hi : Try.prog.info? 5 = some i) (hz : i.zero = some (.int .u8 0)) (hsize : i.size = 1) (hby : i.bytes = 1) {v : Value} {n : Nat} {xs : List Value} (hown : w.ownsRow B 5 1 v n xs) (hn : 0 < n) (s : ByteArray) (h63 : n + s.size ≤ 140737488355328) (hbase : B ≤ w.heap.size) :
    ∃ v' w', (Builtin.append_ #[75, 9] ty #[v, .string s]).run Try.prog w = .ok v' w' ∧ w'.ownsRow B 5 1 v' (n + s.size) (xs ++ Lib.strCells s) ∧ w.grownBy w' v.ownBlock ∧ (v'.ownBlock = v.ownBlock ∨ v'.ownBlock = some w.heap.size) := by
  obtain ⟨v', w', hr, h1, h2, _⟩ := Lib.run_append_own_string (P := Try.prog) w B 75 9 ty 5 i Try.underlying75 Try.underlying9 hi hz hsize hby v n xs hown s (by unfold maxLen; omega) h63 hbase
  refine ⟨v', w', hr, h1, h2, ?_⟩
  rcases hown.2 with ⟨rfl, rfl⟩ | ⟨g, cap, cur, rfl, hbg, hg, hnc, hcm, hcs, htake⟩
  · omega
  · by_cases hroom : n + s.size ≤ cap
    · have hr2 := Lib.run_append_room_string (P := Try.prog) w 75 9 ty 5 i Try.underlying75 Try.underlying9 hi hsize g n cap cur hg s hroom (by omega)
      rw [hr] at hr2
      simp only [Result.ok.injEq] at hr2
      exact .inl (by rw [hr2.1]; rfl)
    · have holds : ∀ j u, xs[j]? = some u → w.cell? ((⟨g, 0, none⟩ : Addr).add j) = some u := hown.cells (g := g) rfl
      have hr2 := Lib.run_append_grow_string (P := Try.prog) w 75 9 ty 5 i (.int .u8 0) Try.underlying75 Try.underlying9 hi hz ⟨g, 0, none⟩ n cap xs (by rw [hsize]; simpa using hown.1) holds s (by omega) (by omega) (by rw [hby]; exact growslice_fits (by omega) (by omega))
      rw [hr] at hr2
      simp only [Result.ok.injEq] at hr2
      exact .inr (by rw [hr2.1]; rfl)
theorem wpList_append_text {w : World} {ops : Array Oper} {rest : List Oper} {o : Oper} {a : Act} {Q : Exit → Act → World → Prop} (hgd : o.guard = none) (sl x : Operand)
    (ho : o.op = .call { callee := .builtin .append, args := #[sl, x], argTypes := #[75, 9] }) (B : Nat)
    (v : Value) (n : Nat) (xs : List Value) (hs : a.eval sl = v) (hown : w.ownsRow B 5 1 v n xs) (hn : 0 < n) (s : ByteArray) (hx : a.eval x = .string s)
    (h63 : n + s.size ≤ 140737488355328) (hbase : B ≤ w.heap.size)
    (h : ∀ v' w', w'.ownsRow B 5 1 v' (n + s.size) (xs ++ Lib.strCells s) → w.grownBy w' v.ownBlock → (v'.ownBlock = v.ownBlock ∨ v'.ownBlock = some w.heap.size) → wpList Try.prog ops Q rest (a.put o.dst v') w') : wpList Try.prog ops Q (o :: rest) a w := by
  obtain ⟨i0, hi0, hz0, hz1, hz2⟩ := info5
  refine wpList_plain hgd fun K hK => ?_
  obtain ⟨v', w', hr, h2, h3, h4⟩ := append_text_at (ty := o.type) hi0 hz0 hz1 hz2 hown hn s h63 hbase
  unfold Oper.wp execOp
  simp only [ho, resolve, invoke, builtin, Sem.run_bind, Sem.run_pure, Result.andThen_ok, List.map_toArray, List.map_cons, List.map_nil, hs, hx, hr]
  exact hK _ _ (h v' w' h2 h3 h4)

set_option maxHeartbeats 800000 in
theorem appendText_any {w : World} {B : Nat} {v : Value} {l : List UInt8} (h : Row w B v l) (hB : B ≤ w.heap.size) (t : List UInt8) (hl : l.length + t.length ≤ 100000000000) :
    Calls Try.prog 67 #[v, .string (strOf t)] w fun e w' => ∃ v', e = .returned v' ∧ Row w' B v' (l ++ textL t) ∧ Below B w w' ∧ Grow w w' v v' := by
  obtain ⟨i0, hi0, hz0, hz1, hz2⟩ := info5
  have hts := strOf_size t
  have HC := hid (appendInt_any h hB (by omega) (t.length : Int) ⟨by omega, by omega⟩)
  have hL := intL_length (t.length : Int)
  have hL2 : (l ++ intL (t.length : Int)).length = l.length + (intL (t.length : Int)).length := by simp
  have H0 : Hid (∀ v' w1 v2 w2, Row w1 B v' (l ++ intL (t.length : Int)) → Below B w w1 → Grow w w1 v v' → w2.ownsRow B 5 1 v2 ((l ++ intL (t.length : Int)).length + (strOf t).size) (u8c (l ++ intL (t.length : Int)) ++ Lib.strCells (strOf t)) → w1.grownBy w2 v'.ownBlock → (v2.ownBlock = v'.ownBlock ∨ v2.ownBlock = some w1.heap.size) → Row w2 B v2 (l ++ textL t) ∧ Below B w w2 ∧ Grow w w2 v v2) := by
    intro v' w1 v2 w2 h1 h2 h5 h3 h4 h6
    rw [strCells_eq, strOf_size] at h3
    have := Row.of h3
    rw [List.append_assoc] at this
    refine ⟨this, h2.grown h4 (Nat.le_trans hB h2.size) h1.own, h5.trans ⟨h4, fun q hq => ?_⟩⟩
    rcases h6 with h6 | h6
    · exact .inl (h6 ▸ hq)
    · rw [h6] at hq; cases hq; exact .inr (Nat.le_refl _)
  have hLp : 0 < (l ++ intL (t.length : Int)).length := by omega
  clear h
  generalize l ++ intL (t.length : Int) = L at *
  go_enter Try.func67, Try.ntmps67
  go_wp2_with (first | (go_at_call 66; refine HC.out.mono ?_; rintro e w1 ⟨v', rfl, hrow, hb, hgr⟩) | (at_builtin; refine wpList_append_text rfl _ _ rfl B _ L.length (u8c L) rfl hrow hLp (strOf t) rfl (by omega) (by have := hb.size; omega) ?_; intro v2 w2 hown2 hg2 hat))
  have HF := H0.out _ _ _ _ hrow hb hgr hown2 hg2 hat
  go_ret
  exact ⟨_, rfl, HF⟩
end Go.Proofs.Ytlgaianlkbaedaa

