/- Batches in memory: their records, row by row; what looks at them: rightTimes, hasLongText. -/
import Derived.Test.YtbgmehanhilicaaK5
import Derived.Lib.AppendStr
namespace Go.Proofs.Ytbgmehanhilicaa
open Go.RowKit Go.Maps
set_option linter.unusedSimpArgs false
set_option linter.unusedVariables false
set_option maxRecDepth 100000

def Rec.ok (r : Rec) : Prop := I64 r.time ∧ r.key.length ≤ maxLen ∧ r.val.length ≤ maxLen
def RecCells (w : World) (b o : Nat) (r : Rec) : Prop := w.cell? ⟨b, o, none⟩ = some (.string (strOf r.key)) ∧ w.cell? ⟨b, o + 1, none⟩ = some (.string (strOf r.val)) ∧ w.cell? ⟨b, o + 2, none⟩ = some (.int .i64 r.time)
def RecsAt (w : World) (a : Option Addr) (rs : List Rec) : Prop := rs = [] ∨ ∃ b off, a = some ⟨b, off, none⟩ ∧ b < w.heap.size ∧ ∀ i (h : i < rs.length), RecCells w b (off + i * 3) rs[i]
/-- A slice of records that is there. -/
structure Recs (w : World) (v : Value) (rs : List Rec) : Prop where
  shape : ∃ a cap, v = .slice a rs.length cap ∧ RecsAt w a rs
  ok : ∀ r ∈ rs, r.ok
  len : rs.length ≤ maxLen

theorem RecCells.under {w w' : World} {b o : Nat} {r : Rec} (h : RecCells w b o r) (e : w'.heap[b]? = w.heap[b]?) : RecCells w' b o r := by
  obtain ⟨h0, h1, h2⟩ := h
  exact ⟨(World.cell?_of_block (a := ⟨b, o, none⟩) e).trans h0, (World.cell?_of_block (a := ⟨b, o + 1, none⟩) e).trans h1, (World.cell?_of_block (a := ⟨b, o + 2, none⟩) e).trans h2⟩
theorem RecsAt.under {w w' : World} {a : Option Addr} {rs : List Rec} (h : RecsAt w a rs) (hb : Below w.heap.size w w') : RecsAt w' a rs := by
  rcases h with h | ⟨b, off, e, hl, hc⟩
  · exact .inl h
  · exact .inr ⟨b, off, e, Nat.lt_of_lt_of_le hl hb.size, fun i hi => (hc i hi).under (hb.block b hl)⟩
theorem Recs.under {w w' : World} {v : Value} {rs : List Rec} (h : Recs w v rs) (hb : Below w.heap.size w w') : Recs w' v rs := by
  obtain ⟨a, cap, e, ha⟩ := h.shape
  exact ⟨⟨a, cap, e, ha.under hb⟩, h.ok, h.len⟩
theorem Recs.at {w : World} {a : Option Addr} {cap : Nat} {rs : List Rec} (h : RecsAt w a rs) (k : Nat) (hk : k < rs.length) : ∃ b off, a = some ⟨b, off, none⟩ ∧ b < w.heap.size ∧ RecCells w b (off + k * 3) rs[k] := by
  rcases h with h | ⟨b, off, e, hl, hc⟩
  · subst h; simp at hk
  · exact ⟨b, off, e, hl, hc k hk⟩

theorem take_all (p : Rec → Bool) (l : List Rec) (k : Nat) (h : k < l.length) : (l.take (k + 1)).all p = ((l.take k).all p && p l[k]) := by
  rw [List.take_succ_eq_append_getElem h, List.all_append]; simp
theorem take_any (p : Rec → Bool) (l : List Rec) (k : Nat) (h : k < l.length) : (l.take (k + 1)).any p = ((l.take k).any p || p l[k]) := by
  rw [List.take_succ_eq_append_getElem h, List.any_append]; simp
theorem all_no (p : Rec → Bool) (l : List Rec) (k : Nat) (h : k < l.length) (hp : p l[k] = false) : l.all p = false := by
  rw [List.all_eq_false]; exact ⟨l[k], List.getElem_mem h, by simp [hp]⟩
theorem any_yes (p : Rec → Bool) (l : List Rec) (k : Nat) (h : k < l.length) (hp : p l[k] = true) : l.any p = true := by
  rw [List.any_eq_true]; exact ⟨l[k], List.getElem_mem h, hp⟩

end Go.Proofs.Ytbgmehanhilicaa

/- A batch's numbers: batchNumbers, rightNumbers, goesOver. -/
namespace Go.Proofs.Ytbgmehanhilicaa
open Go.RowKit Go.Maps
set_option linter.unusedSimpArgs false
set_option linter.unusedVariables false
set_option maxRecDepth 100000

def batV (b : Bat) (rv : Value) : Value := .agg #[.int .i64 b.base, .int .i64 b.epoch, .int .i64 b.pid, .int .i64 b.pidEpoch, .int .i64 b.seq, rv]
/-- A batch's numbers are ints. -/
structure Bat.ints (b : Bat) : Prop where
  h0 : I64 b.base
  h1 : I64 b.epoch
  h2 : I64 b.pid
  h3 : I64 b.pidEpoch
  h4 : I64 b.seq

theorem box_cell {w w1 : World} {cs : Array Value} {T : TypeId} (hb : Below (w.alloc (.cells cs T)).heap.size (w.alloc (.cells cs T)) w1) (j : Nat) (u : Value) (hu : cs[j]? = some u) : w1.cell? ⟨w.heap.size, j, none⟩ = some u := by
  have h1 : w1.cell? ⟨w.heap.size, j, none⟩ = (w.alloc (.cells cs T)).cell? ⟨w.heap.size, j, none⟩ := hb.cell (p := ⟨w.heap.size, j, none⟩) (by simp)
  rw [h1]
  exact cell_new rfl hu
theorem box_below {w w1 : World} {o : Obj} (hb : Below (w.alloc o).heap.size (w.alloc o) w1) : Below w.heap.size w w1 := ((Below.refl _ w).alloc (Nat.le_refl _) o).trans (hb.mono (by simp))

def okN (k : Nat) (n : Int) : Prop := 0 ≤ n ∧ (0 < k → n ≤ 1000000000)
theorem numsB_no (b : Bat) (k : Nat) (hk : k < 5) (h : ¬ okN k ((numsOf b).getD k 0)) : numsB b = false := by
  rw [Bool.eq_false_iff]
  intro hb
  simp only [numsB, Bool.and_eq_true, decide_eq_true_eq, inB_iff] at hb
  obtain ⟨⟨⟨⟨⟨e1, e2⟩, e3⟩, e4⟩, e5⟩, _⟩ := hb
  apply h
  unfold okN numsOf
  match k, hk with
  | 0, _ => simp; omega
  | 1, _ => simp; omega
  | 2, _ => simp; omega
  | 3, _ => simp; omega
  | 4, _ => simp; omega
theorem numsB_yes (b : Bat) (h : ∀ k, k < 5 → okN k ((numsOf b).getD k 0)) : numsB b = (!(b.pid == 0) || (b.pidEpoch == 0 && b.seq == 0)) := by
  have g0 := h 0 (by omega)
  have g1 := h 1 (by omega)
  have g2 := h 2 (by omega)
  have g3 := h 3 (by omega)
  have g4 := h 4 (by omega)
  simp [okN, numsOf] at g0 g1 g2 g3 g4
  have e0 : decide (0 ≤ b.base) = true := by simp; omega
  have e1 := (inB_iff b.epoch).2 g1
  have e2 := (inB_iff b.pid).2 g2
  have e3 := (inB_iff b.pidEpoch).2 g3
  have e4 := (inB_iff b.seq).2 g4
  simp only [numsB, e0, e1, e2, e3, e4, Bool.true_and]

end Go.Proofs.Ytbgmehanhilicaa

/- What writes lists of ints, texts, a batch's body. -/
namespace Go.Proofs.Ytbgmehanhilicaa
open Go.RowKit Go.Maps
set_option linter.unusedSimpArgs false
set_option linter.unusedVariables false
set_option maxRecDepth 100000

def IntsAt (w : World) (a : Option Addr) (B : Nat) (ns : List Int) : Prop := ns = [] ∨ ∃ b off, a = some ⟨b, off, none⟩ ∧ b < B ∧ ∀ i (h : i < ns.length), w.cell? ⟨b, off + i, none⟩ = some (.int .i64 ns[i])
theorem IntsAt.under {w w' : World} {a : Option Addr} {B : Nat} {ns : List Int} (h : IntsAt w a B ns) (hb : Below B w w') : IntsAt w' a B ns := by
  rcases h with h | ⟨b, off, e, hl, hc⟩
  · exact .inl h
  · exact .inr ⟨b, off, e, hl, fun i hi => (World.cell?_of_block (a := ⟨b, off + i, none⟩) (hb.block b hl)).trans (hc i hi)⟩
theorem IntsAt.at {w : World} {a : Option Addr} {B : Nat} {ns : List Int} (h : IntsAt w a B ns) (k : Nat) (hk : k < ns.length) : ∃ b off, a = some ⟨b, off, none⟩ ∧ w.cell? ⟨b, off + k, none⟩ = some (.int .i64 ns[k]) := by
  rcases h with h | ⟨b, off, e, hl, hc⟩
  · subst h; simp at hk
  · exact ⟨b, off, e, hc k hk⟩

theorem ints_take (ns : List Int) (k : Nat) (h : k < ns.length) : intsL (ns.take (k + 1)) = intsL (ns.take k) ++ intL ns[k] := by
  rw [List.take_succ_eq_append_getElem h, intsL_snoc]

theorem strCells_eq (l : List UInt8) : Lib.strCells (strOf l) = u8c l := by
  unfold Lib.strCells u8c
  rw [strOf_data]

/-- A string's bytes behind a row that is there: where the new row lies. -/
theorem append_text_at {w : World} {B ty : Nat} {i : TypeInfo} (hi : Try.prog.info? 5 = some i) (hz : i.zero = some (.int .u8 0)) (hsize : i.size = 1) (hby : i.bytes = 1) {v : Value} {n : Nat} {xs : List Value} (hown : w.ownsRow B 5 1 v n xs) (hn : 0 < n) (s : ByteArray) (h63 : n + s.size ≤ 140737488355328) (hbase : B ≤ w.heap.size) :
    ∃ v' w', (Builtin.append_ #[53, 9] ty #[v, .string s]).run Try.prog w = .ok v' w' ∧ w'.ownsRow B 5 1 v' (n + s.size) (xs ++ Lib.strCells s) ∧ w.grownBy w' v.ownBlock ∧ (v'.ownBlock = v.ownBlock ∨ v'.ownBlock = some w.heap.size) := by
  obtain ⟨v', w', hr, h1, h2, _⟩ := Lib.run_append_own_string (P := Try.prog) w B 53 9 ty 5 i Try.underlying53 Try.underlying9 hi hz hsize hby v n xs hown s (by unfold maxLen; omega) h63 hbase
  refine ⟨v', w', hr, h1, h2, ?_⟩
  rcases hown.2 with ⟨rfl, rfl⟩ | ⟨g, cap, cur, rfl, hbg, hg, hnc, hcm, hcs, htake⟩
  · omega
  · by_cases hroom : n + s.size ≤ cap
    · have hr2 := Lib.run_append_room_string (P := Try.prog) w 53 9 ty 5 i Try.underlying53 Try.underlying9 hi hsize g n cap cur hg s hroom (by omega)
      rw [hr] at hr2
      simp only [Result.ok.injEq] at hr2
      exact .inl (by rw [hr2.1]; rfl)
    · have holds : ∀ j u, xs[j]? = some u → w.cell? ((⟨g, 0, none⟩ : Addr).add j) = some u := hown.cells (g := g) rfl
      have hr2 := Lib.run_append_grow_string (P := Try.prog) w 53 9 ty 5 i (.int .u8 0) Try.underlying53 Try.underlying9 hi hz ⟨g, 0, none⟩ n cap xs (by rw [hsize]; simpa using hown.1) holds s (by omega) (by omega) (by rw [hby]; exact growslice_fits (by omega) (by omega))
      rw [hr] at hr2
      simp only [Result.ok.injEq] at hr2
      exact .inr (by rw [hr2.1]; rfl)
theorem wpList_append_text {w : World} {ops : Array Oper} {rest : List Oper} {o : Oper} {a : Act} {Q : Exit → Act → World → Prop} (hgd : o.guard = none) (sl x : Operand)
    (ho : o.op = .call { callee := .builtin .append, args := #[sl, x], argTypes := #[53, 9] }) (B : Nat)
    (v : Value) (n : Nat) (xs : List Value) (hs : a.eval sl = v) (hown : w.ownsRow B 5 1 v n xs) (hn : 0 < n) (s : ByteArray) (hx : a.eval x = .string s)
    (h63 : n + s.size ≤ 140737488355328) (hbase : B ≤ w.heap.size)
    (h : ∀ v' w', w'.ownsRow B 5 1 v' (n + s.size) (xs ++ Lib.strCells s) → w.grownBy w' v.ownBlock → (v'.ownBlock = v.ownBlock ∨ v'.ownBlock = some w.heap.size) → wpList Try.prog ops Q rest (a.put o.dst v') w') : wpList Try.prog ops Q (o :: rest) a w := by
  obtain ⟨i0, hi0, hz0, hz1, hz2⟩ := info5
  refine wpList_plain hgd fun K hK => ?_
  obtain ⟨v', w', hr, h2, h3, h4⟩ := append_text_at (ty := o.type) hi0 hz0 hz1 hz2 hown hn s h63 hbase
  unfold Oper.wp execOp
  simp only [ho, resolve, invoke, builtin, Sem.run_bind, Sem.run_pure, Result.andThen_ok, List.map_toArray, List.map_cons, List.map_nil, hs, hx, hr]
  exact hK _ _ (h v' w' h2 h3 h4)

end Go.Proofs.Ytbgmehanhilicaa

