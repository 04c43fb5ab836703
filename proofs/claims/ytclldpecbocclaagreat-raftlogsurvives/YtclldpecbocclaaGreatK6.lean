/- Batches in memory: their records, row by row; what looks at them: rightTimes, hasLongText. -/
import Derived.Test.YtclldpecbocclaaGreatK5
import Derived.Lib.AppendStr
import Derived.Lib.BufferWrite
import Derived.Shelf.Pu.Clone
namespace Go.Proofs.YtclldpecbocclaaGreat
open Go.RowKit Go.Maps
set_option linter.unusedSimpArgs false
set_option linter.unusedVariables false
set_option maxRecDepth 100000

def Rec.ok (r : Rec) : Prop := I64 r.time ∧ r.key.length ≤ maxLen ∧ r.val.length ≤ maxLen
def RecCells (w : World) (b o : Nat) (r : Rec) : Prop := w.cell? ⟨b, o, none⟩ = some (.string (strOf r.key)) ∧ w.cell? ⟨b, o + 1, none⟩ = some (.string (strOf r.val)) ∧ w.cell? ⟨b, o + 2, none⟩ = some (.int .i64 r.time)
def RecsAt (w : World) (a : Option Addr) (rs : List Rec) : Prop := rs = [] ∨ ∃ b off, a = some ⟨b, off, none⟩ ∧ b < w.heap.size ∧ ∀ i (h : i < rs.length), RecCells w b (off + i * 3) rs[i]
/-- A slice of records that is there. -/
structure Recs (w : World) (v : Value) (rs : List Rec) : Prop where
  shape : ∃ a cap, v = .slice a rs.length cap ∧ RecsAt w a rs
  ok : ∀ r ∈ rs, r.ok
  len : rs.length ≤ maxLen

theorem RecCells.under {w w' : World} {b o : Nat} {r : Rec} (h : RecCells w b o r) (e : w'.heap[b]? = w.heap[b]?) : RecCells w' b o r := by
  obtain ⟨h0, h1, h2⟩ := h
  exact ⟨(World.cell?_of_block (a := ⟨b, o, none⟩) e).trans h0, (World.cell?_of_block (a := ⟨b, o + 1, none⟩) e).trans h1, (World.cell?_of_block (a := ⟨b, o + 2, none⟩) e).trans h2⟩
theorem RecsAt.under {w w' : World} {a : Option Addr} {rs : List Rec} (h : RecsAt w a rs) (hb : Below w.heap.size w w') : RecsAt w' a rs := by
  rcases h with h | ⟨b, off, e, hl, hc⟩
  · exact .inl h
  · exact .inr ⟨b, off, e, Nat.lt_of_lt_of_le hl hb.size, fun i hi => (hc i hi).under (hb.block b hl)⟩
theorem Recs.under {w w' : World} {v : Value} {rs : List Rec} (h : Recs w v rs) (hb : Below w.heap.size w w') : Recs w' v rs := by
  obtain ⟨a, cap, e, ha⟩ := h.shape
  exact ⟨⟨a, cap, e, ha.under hb⟩, h.ok, h.len⟩
theorem Recs.at {w : World} {a : Option Addr} {cap : Nat} {rs : List Rec} (h : RecsAt w a rs) (k : Nat) (hk : k < rs.length) : ∃ b off, a = some ⟨b, off, none⟩ ∧ b < w.heap.size ∧ RecCells w b (off + k * 3) rs[k] := by
  rcases h with h | ⟨b, off, e, hl, hc⟩
  · subst h; simp at hk
  · exact ⟨b, off, e, hl, hc k hk⟩

theorem take_all (p : Rec → Bool) (l : List Rec) (k : Nat) (h : k < l.length) : (l.take (k + 1)).all p = ((l.take k).all p && p l[k]) := by
  rw [List.take_succ_eq_append_getElem h, List.all_append]; simp
theorem take_any (p : Rec → Bool) (l : List Rec) (k : Nat) (h : k < l.length) : (l.take (k + 1)).any p = ((l.take k).any p || p l[k]) := by
  rw [List.take_succ_eq_append_getElem h, List.any_append]; simp
theorem all_no (p : Rec → Bool) (l : List Rec) (k : Nat) (h : k < l.length) (hp : p l[k] = false) : l.all p = false := by
  rw [List.all_eq_false]; exact ⟨l[k], List.getElem_mem h, by simp [hp]⟩
theorem any_yes (p : Rec → Bool) (l : List Rec) (k : Nat) (h : k < l.length) (hp : p l[k] = true) : l.any p = true := by
  rw [List.any_eq_true]; exact ⟨l[k], List.getElem_mem h, hp⟩

end Go.Proofs.YtclldpecbocclaaGreat

/- A batch's numbers: batchNumbers, rightNumbers, goesOver. -/
namespace Go.Proofs.YtclldpecbocclaaGreat
open Go.RowKit Go.Maps
set_option linter.unusedSimpArgs false
set_option linter.unusedVariables false
set_option maxRecDepth 100000

def batV (b : Bat) (rv : Value) : Value := .agg #[.int .i64 b.base, .int .i64 b.epoch, .int .i64 b.pid, .int .i64 b.pidEpoch, .int .i64 b.seq, rv]
/-- A batch's numbers are ints. -/
structure Bat.ints (b : Bat) : Prop where
  h0 : I64 b.base
  h1 : I64 b.epoch
  h2 : I64 b.pid
  h3 : I64 b.pidEpoch
  h4 : I64 b.seq

theorem box_cell {w w1 : World} {cs : Array Value} {T : TypeId} (hb : Below (w.alloc (.cells cs T)).heap.size (w.alloc (.cells cs T)) w1) (j : Nat) (u : Value) (hu : cs[j]? = some u) : w1.cell? ⟨w.heap.size, j, none⟩ = some u := by
  have h1 : w1.cell? ⟨w.heap.size, j, none⟩ = (w.alloc (.cells cs T)).cell? ⟨w.heap.size, j, none⟩ := hb.cell (p := ⟨w.heap.size, j, none⟩) (by simp)
  rw [h1]
  exact cell_new rfl hu
theorem box_below {w w1 : World} {o : Obj} (hb : Below (w.alloc o).heap.size (w.alloc o) w1) : Below w.heap.size w w1 := ((Below.refl _ w).alloc (Nat.le_refl _) o).trans (hb.mono (by simp))

def okN (k : Nat) (n : Int) : Prop := 0 ≤ n ∧ (0 < k → n ≤ 1000000000)
theorem numsB_no (b : Bat) (k : Nat) (hk : k < 5) (h : ¬ okN k ((numsOf b).getD k 0)) : numsB b = false := by
  rw [Bool.eq_false_iff]
  intro hb
  simp only [numsB, Bool.and_eq_true, decide_eq_true_eq, inB_iff] at hb
  obtain ⟨⟨⟨⟨⟨e1, e2⟩, e3⟩, e4⟩, e5⟩, _⟩ := hb
  apply h
  unfold okN numsOf
  match k, hk with
  | 0, _ => simp; omega
  | 1, _ => simp; omega
  | 2, _ => simp; omega
  | 3, _ => simp; omega
  | 4, _ => simp; omega
theorem numsB_yes (b : Bat) (h : ∀ k, k < 5 → okN k ((numsOf b).getD k 0)) : numsB b = (!(b.pid == 0) || (b.pidEpoch == 0 && b.seq == 0)) := by
  have g0 := h 0 (by omega)
  have g1 := h 1 (by omega)
  have g2 := h 2 (by omega)
  have g3 := h 3 (by omega)
  have g4 := h 4 (by omega)
  simp [okN, numsOf] at g0 g1 g2 g3 g4
  have e0 : decide (0 ≤ b.base) = true := by simp; omega
  have e1 := (inB_iff b.epoch).2 g1
  have e2 := (inB_iff b.pid).2 g2
  have e3 := (inB_iff b.pidEpoch).2 g3
  have e4 := (inB_iff b.seq).2 g4
  simp only [numsB, e0, e1, e2, e3, e4, Bool.true_and]

end Go.Proofs.YtclldpecbocclaaGreat

/- What writes lists of ints, texts, a batch's body. -/
namespace Go.Proofs.YtclldpecbocclaaGreat
open Go.RowKit Go.Maps
set_option linter.unusedSimpArgs false
set_option linter.unusedVariables false
set_option maxRecDepth 100000

def IntsAt (w : World) (a : Option Addr) (B : Nat) (ns : List Int) : Prop := ns = [] ∨ ∃ b off, a = some ⟨b, off, none⟩ ∧ b < B ∧ ∀ i (h : i < ns.length), w.cell? ⟨b, off + i, none⟩ = some (.int .i64 ns[i])
theorem IntsAt.under {w w' : World} {a : Option Addr} {B : Nat} {ns : List Int} (h : IntsAt w a B ns) (hb : Below B w w') : IntsAt w' a B ns := by
  rcases h with h | ⟨b, off, e, hl, hc⟩
  · exact .inl h
  · exact .inr ⟨b, off, e, hl, fun i hi => (World.cell?_of_block (a := ⟨b, off + i, none⟩) (hb.block b hl)).trans (hc i hi)⟩
theorem IntsAt.at {w : World} {a : Option Addr} {B : Nat} {ns : List Int} (h : IntsAt w a B ns) (k : Nat) (hk : k < ns.length) : ∃ b off, a = some ⟨b, off, none⟩ ∧ w.cell? ⟨b, off + k, none⟩ = some (.int .i64 ns[k]) := by
  rcases h with h | ⟨b, off, e, hl, hc⟩
  · subst h; simp at hk
  · exact ⟨b, off, e, hc k hk⟩

theorem ints_take (ns : List Int) (k : Nat) (h : k < ns.length) : intsL (ns.take (k + 1)) = intsL (ns.take k) ++ intL ns[k] := by
  rw [List.take_succ_eq_append_getElem h, intsL_snoc]

theorem strCells_eq (l : List UInt8) : Lib.strCells (strOf l) = u8c l := by
  unfold Lib.strCells u8c
  rw [strOf_data]

/-- A string's bytes behind a row that is there: where the new row lies. -/
theorem append_text_at {w : World} {B ty : Nat} {i : TypeInfo} (hi : Tryz.prog.info? 5 = some i) (hz : i.zero = some (.int .u8 0)) (hsize : i.size = 1) (hby : i.bytes = 1) {v : Value} {n : Nat} {xs : List Value} (hown : w.ownsRow B 5 1 v n xs) (hn : 0 < n) (s : ByteArray) (h63 : n + s.size ≤ 140737488355328) (hbase : B ≤ w.heap.size) :
    ∃ v' w', (Builtin.append_ #[74, 9] ty #[v, .string s]).run Tryz.prog w = .ok v' w' ∧ w'.ownsRow B 5 1 v' (n + s.size) (xs ++ Lib.strCells s) ∧ w.grownBy w' v.ownBlock ∧ (v'.ownBlock = v.ownBlock ∨ v'.ownBlock = some w.heap.size) := by
  obtain ⟨v', w', hr, h1, h2, _⟩ := Lib.run_append_own_string (P := Tryz.prog) w B 74 9 ty 5 i Tryz.underlying74 Tryz.underlying9 hi hz hsize hby v n xs hown s (by unfold maxLen; omega) h63 hbase
  refine ⟨v', w', hr, h1, h2, ?_⟩
  rcases hown.2 with ⟨rfl, rfl⟩ | ⟨g, cap, cur, rfl, hbg, hg, hnc, hcm, hcs, htake⟩
  · omega
  · by_cases hroom : n + s.size ≤ cap
    · have hr2 := Lib.run_append_room_string (P := Tryz.prog) w 74 9 ty 5 i Tryz.underlying74 Tryz.underlying9 hi hsize g n cap cur hg s hroom (by omega)
      rw [hr] at hr2
      simp only [Result.ok.injEq] at hr2
      exact .inl (by rw [hr2.1]; rfl)
    · have holds : ∀ j u, xs[j]? = some u → w.cell? ((⟨g, 0, none⟩ : Addr).add j) = some u := hown.cells (g := g) rfl
      have hr2 := Lib.run_append_grow_string (P := Tryz.prog) w 74 9 ty 5 i (.int .u8 0) Tryz.underlying74 Tryz.underlying9 hi hz ⟨g, 0, none⟩ n cap xs (by rw [hsize]; simpa using hown.1) holds s (by omega) (by omega) (by rw [hby]; exact growslice_fits (by omega) (by omega))
      rw [hr] at hr2
      simp only [Result.ok.injEq] at hr2
      exact .inr (by rw [hr2.1]; rfl)
theorem wpList_append_text {w : World} {ops : Array Oper} {rest : List Oper} {o : Oper} {a : Act} {Q : Exit → Act → World → Prop} (hgd : o.guard = none) (sl x : Operand)
    (ho : o.op = .call { callee := .builtin .append, args := #[sl, x], argTypes := #[74, 9] }) (B : Nat)
    (v : Value) (n : Nat) (xs : List Value) (hs : a.eval sl = v) (hown : w.ownsRow B 5 1 v n xs) (hn : 0 < n) (s : ByteArray) (hx : a.eval x = .string s)
    (h63 : n + s.size ≤ 140737488355328) (hbase : B ≤ w.heap.size)
    (h : ∀ v' w', w'.ownsRow B 5 1 v' (n + s.size) (xs ++ Lib.strCells s) → w.grownBy w' v.ownBlock → (v'.ownBlock = v.ownBlock ∨ v'.ownBlock = some w.heap.size) → wpList Tryz.prog ops Q rest (a.put o.dst v') w') : wpList Tryz.prog ops Q (o :: rest) a w := by
  obtain ⟨i0, hi0, hz0, hz1, hz2⟩ := info5
  refine wpList_plain hgd fun K hK => ?_
  obtain ⟨v', w', hr, h2, h3, h4⟩ := append_text_at (ty := o.type) hi0 hz0 hz1 hz2 hown hn s h63 hbase
  unfold Oper.wp execOp
  simp only [ho, resolve, invoke, builtin, Sem.run_bind, Sem.run_pure, Result.andThen_ok, List.map_toArray, List.map_cons, List.map_nil, hs, hx, hr]
  exact hK _ _ (h v' w' h2 h3 h4)

end Go.Proofs.YtclldpecbocclaaGreat

/- A batch's body, written. -/
namespace Go.Proofs.YtclldpecbocclaaGreat
open Go.RowKit Go.Maps
set_option linter.unusedSimpArgs false
set_option linter.unusedVariables false
set_option maxRecDepth 100000

theorem cell_blk {w : World} {q : Nat} {cs : Array Value} {T : TypeId} {mk : Nat × Nat} (h : w.heap[q]? = some (.cells cs T mk)) (j : Nat) (u : Value) (hu : cs[j]? = some u) : w.cell? ⟨q, j, none⟩ = some u := by
  show (match w.heap[q]? with | some (.cells c _ _) => c[j]? | _ => none) = _
  rw [h]
  exact hu
theorem Row.lt {w : World} {B : Nat} {v : Value} {l : List UInt8} (h : Row w B v l) : ∀ k, v.ownBlock = some k → k < w.heap.size := fun k hk => (World.ownsRow.lt h k hk).2
theorem kept_box {wr w1 : World} {B : Nat} {v v1 : Value} {m : List UInt8} {cs : Array Value} {T : TypeId} (hr : Row wr B v m) (g : Grow (wr.alloc (.cells cs T)) w1 v v1) :
    w1.heap[wr.heap.size]? = some (.cells cs T) ∧ v1.ownBlock ≠ some wr.heap.size ∧ wr.heap.size < w1.heap.size := by
  have h := g.block (q := wr.heap.size) (by simp) (fun e => by have := hr.lt _ e; omega)
  exact ⟨h.1.trans (heap_alloc_new wr _), h.2⟩

/-- Where batchBody stands behind k records. -/
structure BodyAt (w : World) (B : Nat) (b : Bat) (k : Nat) (v : Value) (wr : World) : Prop where
  row : Row wr B v (intsL (numsOf b) ++ intL b.recs.length ++ recsL (b.recs.take k))
  below : Below w.heap.size w wr
  base : w.heap.size ≤ B
  size : B ≤ wr.heap.size

theorem recs_take (rs : List Rec) (k : Nat) (h : k < rs.length) : recsL (rs.take (k + 1)) = recsL (rs.take k) ++ recL rs[k] := by
  rw [List.take_succ_eq_append_getElem h, recsL_snoc]

theorem body_short (b : Bat) (hn : b.recs.length ≤ 64) (ht : ∀ r ∈ b.recs, r.key.length ≤ 1000 ∧ r.val.length ≤ 1000) (k : Nat) : (intsL (numsOf b) ++ intL b.recs.length ++ recsL (b.recs.take k)).length ≤ 1000000 := by
  have h1 := intsL_length (numsOf b)
  have h2 := intL_length (b.recs.length : Int)
  have h3 := recsL_length 1000 (b.recs.take k) (fun r hr => ht r (List.mem_of_mem_take hr))
  have h4 : (b.recs.take k).length ≤ 64 := by simp; omega
  have h5 : (numsOf b).length = 5 := rfl
  have h6 : (b.recs.take k).length * (30 + 2 * 1000) ≤ 64 * (30 + 2 * 1000) := Nat.mul_le_mul_right _ h4
  simp only [List.length_append]
  omega

theorem BodyAt.next {w : World} {B : Nat} {b : Bat} {k : Nat} {v : Value} {wr : World} (h : BodyAt w B b k v wr) (hk : k < b.recs.length) {O : Obj} {w1 w2 w3 : World} {v3 : Value} {M : List UInt8}
    (hM : M = intsL (numsOf b) ++ intL b.recs.length ++ recsL (b.recs.take k)) (r3 : Row w3 B v3 (M ++ intL b.recs[k].time ++ textL b.recs[k].key ++ textL b.recs[k].val)) (b1 : Below B (wr.alloc O) w1) (b2 : Below B w1 w2) (b3 : Below B w2 w3) : BodyAt w B b (k + 1) v3 w3 := by
  have hb := h.base
  have hs := h.size
  refine ⟨?_, ?_, hb, ?_⟩
  · rw [recs_take _ k hk]
    have e : intsL (numsOf b) ++ intL b.recs.length ++ (recsL (b.recs.take k) ++ recL b.recs[k]) = M ++ intL b.recs[k].time ++ textL b.recs[k].key ++ textL b.recs[k].val := by
      rw [hM]; simp [recL]
    rw [e]; exact r3
  · exact (((h.below.alloc (Nat.le_trans hb hs) O).trans (b1.mono hb)).trans (b2.mono hb)).trans (b3.mono hb)
  · have h1 := b1.size; have h2 := b2.size; have h3 := b3.size
    simp at h1; omega

end Go.Proofs.YtclldpecbocclaaGreat

/- Right and Batch. -/
namespace Go.Proofs.YtclldpecbocclaaGreat
open Go.RowKit Go.Maps
set_option linter.unusedSimpArgs false
set_option linter.unusedVariables false
set_option maxRecDepth 100000

/-- A box of the call's own that is as it was laid. -/
structure Boxed (w W : World) (O : Obj) : Prop where
  below : Below w.heap.size w W
  box : W.heap[w.heap.size]? = some O
theorem Boxed.lt {w W : World} {O : Obj} (h : Boxed w W O) : w.heap.size < W.heap.size := by
  rcases Nat.lt_or_ge w.heap.size W.heap.size with h1 | h1
  · exact h1
  · have := h.box; rw [Array.getElem?_eq_none h1] at this; cases this
theorem Boxed.laid (w : World) (O : Obj) : Boxed w (w.alloc O) O := ⟨(Below.refl _ _).alloc (Nat.le_refl _) _, heap_alloc_new w O⟩
theorem Boxed.next {w W W' : World} {O : Obj} (h : Boxed w W O) (hb : Below W.heap.size W W') : Boxed w W' O := ⟨h.below.trans (hb.mono (Nat.le_of_lt h.lt)), (hb.block _ h.lt).trans h.box⟩
theorem six {w W : World} {a0 a1 a2 a3 a4 a5 : Value} {T : TypeId} (h : Boxed w W (.cells #[a0, a1, a2, a3, a4, a5] T)) :
    W.cell? ⟨w.heap.size, 0, none⟩ = some a0 ∧ W.cell? ⟨w.heap.size, 1, none⟩ = some a1 ∧ W.cell? ⟨w.heap.size, 2, none⟩ = some a2 ∧ W.cell? ⟨w.heap.size, 3, none⟩ = some a3 ∧ W.cell? ⟨w.heap.size, 4, none⟩ = some a4 ∧ W.cell? ⟨w.heap.size, 5, none⟩ = some a5 :=
  ⟨cell_blk h.box 0 a0 rfl, cell_blk h.box 1 a1 rfl, cell_blk h.box 2 a2 rfl, cell_blk h.box 3 a3 rfl, cell_blk h.box 4 a4 rfl, cell_blk h.box 5 a5 rfl⟩

theorem long_no {l : List Rec} (h : longB l = false) : ∀ r ∈ l, r.key.length ≤ 1000 ∧ r.val.length ≤ 1000 := by
  intro r hr
  simp only [longB, List.any_eq_false, Bool.or_eq_true, decide_eq_true_eq] at h
  have c := h r hr
  omega

end Go.Proofs.YtclldpecbocclaaGreat

/- Batch of wire. -/
namespace Go.Proofs.YtclldpecbocclaaGreat
open Go.RowKit Go.Maps
set_option linter.unusedSimpArgs false
set_option linter.unusedVariables false
set_option maxRecDepth 100000

theorem strOf_append (l m : List UInt8) : strOf l ++ strOf m = strOf (l ++ m) := by
  apply ByteArray.ext
  simp [strOf]

theorem right_facts {b : Bat} (h : rightL b = 0) : b.recs.length ≤ 64 ∧ (∀ r ∈ b.recs, r.key.length ≤ 1000 ∧ r.val.length ≤ 1000) ∧ (bodyL b).length ≤ 4088 := by
  obtain ⟨_, _, _, h4, h5, _, h7⟩ := rightL_ok h
  exact ⟨h4, long_no h5, h7⟩

end Go.Proofs.YtclldpecbocclaaGreat


/- What pieces and rpc write: ints, numbers, texts, behind a row of bytes. -/
namespace Go.Proofs.YtclldpecbocclaaGreat
open Go.RowKit Go.Maps
set_option linter.unusedSimpArgs false
set_option linter.unusedVariables false
set_option maxRecDepth 100000

theorem Grow.under {w w1 : World} (v : Value) (hb : Below w.heap.size w w1) : Grow w w1 v v := ⟨⟨hb.os, hb.tape, hb.output, hb.size, fun k hk _ => hb.block k hk⟩, fun q h => .inl h⟩

/-- A string's bytes behind any row. -/
theorem append_str {w : World} {B ty : Nat} {v : Value} {l : List UInt8} (h : Row w B v l) (t : List UInt8) (h63 : l.length + t.length ≤ 140737488355328) (hbase : B ≤ w.heap.size) :
    ∃ v' w', (Builtin.append_ #[74, 9] ty #[v, .string (strOf t)]).run Tryz.prog w = .ok v' w' ∧ Row w' B v' (l ++ t) ∧ Below B w w' ∧ Grow w w' v v' := by
  obtain ⟨i0, hi0, hz0, hz1, hz2⟩ := info5
  have hs := strOf_size t
  rcases h.2 with ⟨rfl, hn⟩ | ⟨g, cap, cur, rfl, hB, hg, hnc, hcm, hcs, htake⟩
  · have hl0 : l = [] := List.eq_nil_of_length_eq_zero hn
    subst hl0
    obtain ⟨v', w', hr, h1, h2, h3⟩ := Lib.run_append_own_string (P := Tryz.prog) w w.heap.size 74 9 ty 5 i0 Tryz.underlying74 Tryz.underlying9 hi0 hz0 hz1 hz2 (.slice none 0 0) 0 [] (World.ownsRow_nil w _ 5 1) (strOf t) (by unfold maxLen; omega) (by omega) (Nat.le_refl _)
    rw [strCells_eq, hs] at h1
    have h1' : Row w' w.heap.size v' ([] ++ t) := Row.of (l := []) (m := t) (by simpa [u8c] using h1)
    exact ⟨v', w', hr, h1'.base hbase, (Below.refl _ _).grown h2 hbase (fun k hk => by cases hk), h2, fun q hq => .inr (h1'.own q hq)⟩
  · obtain ⟨v', w', hr, h1, h2, _⟩ := Lib.run_append_own_string (P := Tryz.prog) w B 74 9 ty 5 i0 Tryz.underlying74 Tryz.underlying9 hi0 hz0 hz1 hz2 _ l.length (u8c l) h (strOf t) (by unfold maxLen; omega) (by omega) hbase
    have hat : ∀ q, v'.ownBlock = some q → (Value.slice (some ⟨g, 0, none⟩) l.length cap).ownBlock = some q ∨ w.heap.size ≤ q := by
      by_cases hroom : l.length + (strOf t).size ≤ cap
      · have hr2 := Lib.run_append_room_string (P := Tryz.prog) w 74 9 ty 5 i0 Tryz.underlying74 Tryz.underlying9 hi0 hz1 g l.length cap cur hg (strOf t) hroom (by omega)
        rw [hr] at hr2
        simp only [Result.ok.injEq] at hr2
        rw [hr2.1]
        exact fun q hq => .inl hq
      · have holds : ∀ j u, (u8c l)[j]? = some u → w.cell? ((⟨g, 0, none⟩ : Addr).add j) = some u := World.ownsRow.cells h (g := g) rfl
        have hr2 := Lib.run_append_grow_string (P := Tryz.prog) w 74 9 ty 5 i0 (.int .u8 0) Tryz.underlying74 Tryz.underlying9 hi0 hz0 ⟨g, 0, none⟩ l.length cap (u8c l) (by rw [hz1]; simp [u8c]) holds (strOf t) (by omega) (by omega) (by rw [hz2]; exact growslice_fits (by omega) (by omega))
        rw [hr] at hr2
        simp only [Result.ok.injEq] at hr2
        rw [hr2.1]
        intro q hq
        cases hq
        exact .inr (Nat.le_refl _)
    rw [strCells_eq, hs] at h1
    exact ⟨v', w', hr, Row.of h1, (Below.refl _ _).grown h2 hbase h.own, h2, hat⟩

theorem wpList_append_str {w : World} {ops : Array Oper} {rest : List Oper} {o : Oper} {a : Act} {Q : Exit → Act → World → Prop} (hgd : o.guard = none) (sl x : Operand)
    (ho : o.op = .call { callee := .builtin .append, args := #[sl, x], argTypes := #[74, 9] }) (B : Nat)
    (v : Value) (l : List UInt8) (hs : a.eval sl = v) (hrow : Row w B v l) (t : List UInt8) (hx : a.eval x = .string (strOf t))
    (h63 : l.length + t.length ≤ 140737488355328) (hbase : B ≤ w.heap.size)
    (h : ∀ v' w', Row w' B v' (l ++ t) → Below B w w' → Grow w w' v v' → wpList Tryz.prog ops Q rest (a.put o.dst v') w') : wpList Tryz.prog ops Q (o :: rest) a w := by
  refine wpList_plain hgd fun K hK => ?_
  obtain ⟨v', w', hr, h2, h3, h4⟩ := append_str (ty := o.type) hrow t h63 hbase
  unfold Oper.wp execOp
  simp only [ho, resolve, invoke, builtin, Sem.run_bind, Sem.run_pure, Result.andThen_ok, List.map_toArray, List.map_cons, List.map_nil, hs, hx, hr]
  exact hK _ _ (h v' w' h2 h3 h4)

/-- Ints in a row that is not the bytes' own. -/
def IntsIn (w : World) (v : Value) (a : Option Addr) (ns : List Int) : Prop := ns = [] ∨ ∃ b off, a = some ⟨b, off, none⟩ ∧ b < w.heap.size ∧ v.ownBlock ≠ some b ∧ ∀ i (h : i < ns.length), w.cell? ⟨b, off + i, none⟩ = some (.int .i64 ns[i])
theorem IntsIn.grow {w w1 : World} {v v1 : Value} {a : Option Addr} {ns : List Int} (h : IntsIn w v a ns) (g : Grow w w1 v v1) : IntsIn w1 v1 a ns := by
  rcases h with h | ⟨b, off, e, hl, hv, hc⟩
  · exact .inl h
  · obtain ⟨g1, g2, g3⟩ := g.block hl hv
    exact .inr ⟨b, off, e, g3, g2, fun i hi => (World.cell?_of_block (a := ⟨b, off + i, none⟩) g1).trans (hc i hi)⟩
theorem IntsIn.at {w : World} {v : Value} {a : Option Addr} {ns : List Int} (h : IntsIn w v a ns) (k : Nat) (hk : k < ns.length) : ∃ b off, a = some ⟨b, off, none⟩ ∧ w.cell? ⟨b, off + k, none⟩ = some (.int .i64 ns[k]) := by
  rcases h with h | ⟨b, off, e, hl, hv, hc⟩
  · subst h; simp at hk
  · exact ⟨b, off, e, hc k hk⟩
theorem Row.fresh {w : World} {B : Nat} {v : Value} {l : List UInt8} (h : Row w B v l) : v.ownBlock ≠ some w.heap.size := fun e => by
  have := (World.ownsRow.lt h _ e).2
  omega
theorem ints_one {w : World} {B : Nat} {v : Value} {l : List UInt8} (h : Row w B v l) (n : Int) : IntsIn (w.alloc (.cells #[.int .i64 n] 3)) v (some ⟨w.heap.size, 0, none⟩) [n] :=
  .inr ⟨w.heap.size, 0, rfl, by simp, h.fresh, fun i hi => by
    have h0 : i = 0 := by simp at hi; omega
    subst h0
    exact cell_new rfl rfl⟩
theorem ints_two {w : World} {B : Nat} {v : Value} {l : List UInt8} (h : Row w B v l) (n m : Int) : IntsIn (w.alloc (.cells #[.int .i64 n, .int .i64 m] 3)) v (some ⟨w.heap.size, 0, none⟩) [n, m] :=
  .inr ⟨w.heap.size, 0, rfl, by simp, h.fresh, fun i hi => by
    have h0 : i = 0 ∨ i = 1 := by simp at hi; omega
    rcases h0 with rfl | rfl
    · exact cell_new rfl rfl
    · exact cell_new rfl rfl⟩

set_option maxHeartbeats 800000 in
theorem appInts_any {w : World} {B : Nat} {v : Value} {l : List UInt8} (h : Row w B v l) (hB : B ≤ w.heap.size) (a : Option Addr) (cap : Nat) (ns : List Int) (ha : IntsIn w v a ns) (hi : ∀ n ∈ ns, I64 n) (hl : l.length + ns.length * 10 ≤ 1000000000000) :
    Calls Tryz.prog 52 #[v, .slice a ns.length cap] w fun e w' => ∃ v', e = .returned v' ∧ Row w' B v' (l ++ intsL ns) ∧ Below B w w' ∧ Grow w w' v v' := by
  have HA := hid ha
  have HI := hid hi
  have H0 : Hid (Row w B v (l ++ intsL (ns.take 0)) ∧ Below B w w ∧ Grow w w v v) := ⟨by simpa [intsL] using h, .refl _ _, .refl _ _⟩
  clear h ha hi
  go_enter Tryz.func52, Tryz.ntmps52
  go_wp2
  go_loopg [0, 9] ns.length (fun kx s0 s9 wr => ∃ (k : Nat) (sv : Value), k ≤ ns.length ∧ ns.length - k ≤ kx ∧ s9 = .int .i64 k ∧ sv = s0 ∧ Hid (Row wr B sv (l ++ intsL (ns.take k)) ∧ Below B w wr ∧ Grow w wr v sv))
  case atStart => exact ⟨0, _, by omega, by omega, rfl, rfl, H0⟩
  case round =>
    obtain ⟨k, sv, hk, hkx, rfl, rfl, HD⟩ := hrel
    clear H0
    by_cases hlt : k < ns.length
    · have hlt' : (k : Int) < (ns.length : Int) := by omega
      obtain ⟨b, off, rfl, hc⟩ := (HA.out.grow HD.out.2.2).at k hlt
      have hlen : (l ++ intsL (ns.take k)).length ≤ 1000000000000 := by
        have := intsL_length (ns.take k)
        have h2 : (ns.take k).length ≤ ns.length := by simp; omega
        simp only [List.length_append]; omega
      have HC := hid (int_any ns[k] wr (HI.out _ (List.getElem_mem hlt)))
      have HT : Hid (l ++ intsL (ns.take (k + 1)) = l ++ intsL (ns.take k) ++ intL ns[k]) := by show _ = _; rw [ints_take ns k hlt, List.append_assoc]
      have hZ := (intL_length ns[k]).2
      generalize ns[k] = N at *
      have hBs := HD.out.2.1.size
      generalize l ++ intsL (ns.take k) = L at *
      have HR := hid HD.out
      clear HD
      go_wp2_with (first | (go_at_call 70; refine HC.out.mono ?_; rintro e w1 ⟨rfl, hb1⟩; have hs1 := hb1.size; have hrow1 := HR.out.1.under (B' := 0) hb1) | (at_builtin; refine wpList_append_str rfl _ _ rfl B _ L rfl hrow1 (intL N) rfl (by omega) (by omega) ?_; intro v2 w2 hrow2 hb2 hg2))
      go_roundg (ns.length - (k + 1))
      case measure => omega
      case rel =>
        refine ⟨k + 1, v2, by omega, Nat.le_refl _, by go_num, rfl, ?_, ?_, ?_⟩
        · rw [HT.out]; exact hrow2
        · exact HR.out.2.1.trans ((hb1.mono (by omega)).trans hb2)
        · exact HR.out.2.2.trans ((Grow.under sv hb1).trans hg2)
    · have hlt' : ¬ (k : Int) < (ns.length : Int) := by omega
      have he : ns.take k = ns := List.take_of_length_le (by omega)
      have HE := hid HD.out
      rw [he] at HE
      clear he
      go_wp2
      go_ret
      exact ⟨_, rfl, HE.out⟩

theorem one48 {w : World} {B : Nat} {v : Value} {l : List UInt8} (h : Row w B v l) (hB : B ≤ w.heap.size) (n : Int) (hn : I64 n) (hl : l.length ≤ 100000000000) :
    Calls Tryz.prog 52 #[v, .slice (some ⟨w.heap.size, 0, none⟩) 1 1] (w.alloc (.cells #[.int .i64 n] 3)) fun e w' => ∃ v', e = .returned v' ∧ Row w' B v' (l ++ intL n) ∧ Below B w w' ∧ Grow w w' v v' := by
  have H := appInts_any (h.alloc (.cells #[.int .i64 n] 3)) (by simp; omega) (some ⟨w.heap.size, 0, none⟩) 1 [n] (ints_one h n) (fun m hm => by simp at hm; subst hm; exact hn) (by simp; omega)
  refine H.mono ?_
  rintro e w1 ⟨v', rfl, h1, h2, h3⟩
  refine ⟨v', rfl, by simpa [intsL] using h1, ((Below.refl _ _).alloc hB _).trans h2, ((Grow.refl w v).alloc _).trans h3⟩
theorem two48 {w : World} {B : Nat} {v : Value} {l : List UInt8} (h : Row w B v l) (hB : B ≤ w.heap.size) (n m : Int) (hn : I64 n) (hm : I64 m) (hl : l.length ≤ 100000000000) :
    Calls Tryz.prog 52 #[v, .slice (some ⟨w.heap.size, 0, none⟩) 2 2] (w.alloc (.cells #[.int .i64 n, .int .i64 m] 3)) fun e w' => ∃ v', e = .returned v' ∧ Row w' B v' (l ++ intsL [n, m]) ∧ Below B w w' ∧ Grow w w' v v' := by
  have H := appInts_any (h.alloc (.cells #[.int .i64 n, .int .i64 m] 3)) (by simp; omega) (some ⟨w.heap.size, 0, none⟩) 2 [n, m] (ints_two h n m) (fun k hk => by simp at hk; rcases hk with rfl | rfl <;> assumption) (by simp; omega)
  refine H.mono ?_
  rintro e w1 ⟨v', rfl, h1, h2, h3⟩
  exact ⟨v', rfl, h1, ((Below.refl _ _).alloc hB _).trans h2, ((Grow.refl w v).alloc _).trans h3⟩

theorem str_empty (t : List UInt8) : (strOf t).toList.isEmpty = decide (t = []) := by
  rw [Lib.toList_data, strOf_data]
  cases t <;> simp
set_option maxHeartbeats 400000 in
theorem pText_any {w : World} {B : Nat} {v : Value} {l : List UInt8} (h : Row w B v l) (hB : B ≤ w.heap.size) (t : List UInt8) (hl : l.length + t.length ≤ 10000000000) :
    Calls Tryz.prog 53 #[v, .string (strOf t)] w fun e w' => ∃ v', e = .returned v' ∧ Row w' B v' (l ++ textL t) ∧ Below B w w' ∧ Grow w w' v v' := by
  have hts := strOf_size t
  have H48 := hid (one48 h hB (t.length : Int) ⟨by omega, by omega⟩ (by omega))
  have hL := (intL_length (t.length : Int)).2
  have hL2 : (l ++ intL (t.length : Int)).length = l.length + (intL (t.length : Int)).length := by simp
  have HT : Hid (l ++ textL t = l ++ intL (t.length : Int) ++ t) := by show _ = _; unfold textL; rw [List.append_assoc]
  clear h
  generalize l ++ intL (t.length : Int) = L at *
  go_enter Tryz.func53, Tryz.ntmps53
  go_wp2_with (first | (go_at_call 52; refine H48.out.mono ?_; rintro e w1 ⟨v1, rfl, hrow1, hb1, hg1⟩) | (at_builtin; refine wpList_append_str rfl _ _ rfl B _ L rfl hrow1 t rfl (by omega) (by have := hb1.size; omega) ?_; intro v2 w2 hrow2 hb2 hg2))
  go_ret
  exact ⟨_, rfl, by rw [HT.out]; exact hrow2, hb1.trans hb2, hg1.trans hg2⟩

end Go.Proofs.YtclldpecbocclaaGreat

/- The reader: what is left of some bytes, in memory; spoil, number, count. -/
namespace Go.Proofs.YtclldpecbocclaaGreat
open Go.RowKit Go.Maps
set_option linter.unusedSimpArgs false
set_option linter.unusedVariables false
set_option maxRecDepth 100000

/-- A reader in block q. -/
structure Rd (w : World) (q : Nat) (s : RS) : Prop where
  box : w.heap[q]? = some (.cells #[.string (strOf s.rest), .bool s.wrong] 116)
  len : s.rest.length ≤ maxLen
theorem Rd.c0 {w : World} {q : Nat} {s : RS} (h : Rd w q s) : w.cell? ⟨q, 0, none⟩ = some (.string (strOf s.rest)) := cell_blk h.box 0 _ rfl
theorem Rd.c1 {w : World} {q : Nat} {s : RS} (h : Rd w q s) : w.cell? ⟨q, 1, none⟩ = some (.bool s.wrong) := cell_blk h.box 1 _ rfl
theorem frozen_blk {w : World} {q : Nat} {cs : Array Value} {T : TypeId} (h : w.heap[q]? = some (.cells cs T)) (j : Nat) : w.frozen? ⟨q, j, none⟩ = false := by
  simp [World.frozen?, h]
theorem Rd.f {w : World} {q : Nat} {s : RS} (h : Rd w q s) (j : Nat) : w.frozen? ⟨q, j, none⟩ = false := frozen_blk h.box j
theorem Rd.lt {w : World} {q : Nat} {s : RS} (h : Rd w q s) : q < w.heap.size := by
  rcases Nat.lt_or_ge q w.heap.size with h1 | h1
  · exact h1
  · have := h.box; rw [Array.getElem?_eq_none h1] at this; cases this
theorem Rd.set0 {w : World} {q : Nat} {s : RS} (h : Rd w q s) (l : List UInt8) (hl : l.length ≤ maxLen) : Rd (w.setCell ⟨q, 0, none⟩ (.string (strOf l))) q ⟨l, s.wrong⟩ := by
  refine ⟨?_, hl⟩
  rw [setCell_eq_setRow w q 0 _ 116 (0, 0) _ h.box, setRow_heap w q _ _ 116 (0, 0) h.box]
  rfl
theorem Rd.spoil {w : World} {q : Nat} {s : RS} (h : Rd w q s) : Rd ((w.setCell ⟨q, 0, none⟩ (.string ⟨#[]⟩)).setCell ⟨q, 1, none⟩ (.bool true)) q spoiled := by
  have h1 := h.set0 [] (by simp)
  refine ⟨?_, by simp [spoiled]⟩
  have h1b := h1.box
  have e : (Value.string (strOf [])) = .string ⟨#[]⟩ := rfl
  rw [e] at h1b
  rw [setCell_eq_setRow _ q 1 _ 116 (0, 0) _ h1b, setRow_heap _ q _ _ 116 (0, 0) h1b]
  rfl
theorem Rd.kept {w w' : World} {q : Nat} {s : RS} (h : Rd w q s) (hb : w'.heap[q]? = w.heap[q]?) : Rd w' q s := ⟨hb.trans h.box, h.len⟩

theorem extract_drop (l : List UInt8) (k : Nat) : (strOf l).extract k l.length = strOf (l.drop k) := by
  rw [Lib.extract_eq, strOf_data, List.take_of_length_le (by simp)]
  rfl
theorem extract_take (l : List UInt8) (k : Nat) : (strOf l).extract 0 k = strOf (l.take k) := by
  rw [Lib.extract_eq, strOf_data]
  simp [strOf]

end Go.Proofs.YtclldpecbocclaaGreat

/- The reader's text, record, done, five. -/
namespace Go.Proofs.YtclldpecbocclaaGreat
open Go.RowKit Go.Maps
set_option linter.unusedSimpArgs false
set_option linter.unusedVariables false
set_option maxRecDepth 100000

def cloneRen : Go.Shelf.Ren := ⟨fun | 25 => 109 | n => n, fun | 37 => 74 | 47 => 123 | n => n, fun | n => n⟩
theorem cloneLaid : Go.Proofs.LaysPu.n25 Tryz.prog cloneRen := {
  mixed := by kernel_rfl
  f25 := Tryz.func109.trans (congrArg some (by kernel_rfl))
  t0 := by kernel_rfl
  a0 := fun w => by kernel_rfl
  z0 := fun w => by kernel_rfl
  v0 := fun w => by kernel_rfl
  i0 := by kernel_rfl
  t3 := Tryz.underlying3
  a3 := fun w => by kernel_rfl
  z3 := fun w => by kernel_rfl
  v3 := fun w => by kernel_rfl
  i3 := by kernel_rfl
  t4 := Tryz.underlying4
  a4 := fun w => by kernel_rfl
  z4 := fun w => by kernel_rfl
  v4 := fun w => by kernel_rfl
  i4 := by kernel_rfl
  t5 := Tryz.underlying5
  a5 := fun w => by kernel_rfl
  z5 := fun w => by kernel_rfl
  v5 := fun w => by kernel_rfl
  i5 := by kernel_rfl
  t9 := Tryz.underlying9
  a9 := fun w => by kernel_rfl
  z9 := fun w => by kernel_rfl
  v9 := fun w => by kernel_rfl
  i9 := by kernel_rfl
  t37 := Tryz.underlying74
  a37 := fun w => by kernel_rfl
  z37 := fun w => by kernel_rfl
  v37 := fun w => by kernel_rfl
  i37 := by kernel_rfl
  t47 := by kernel_rfl
  a47 := fun w => by kernel_rfl
  z47 := fun w => by kernel_rfl
  v47 := fun w => by kernel_rfl
  i47 := by kernel_rfl }

theorem clone57 (s : ByteArray) (w : World) (h : s.size ≤ 281474976710656) : Calls Tryz.prog 109 #[.string s] w fun e w' => e = .returned (.string s) ∧ Below w.heap.size w w' :=
  AnyPu.stringslite_Clone cloneLaid s w h

set_option maxHeartbeats 400000 in
theorem clone_any (s : ByteArray) (w : World) (h : s.size ≤ 281474976710656) : Calls Tryz.prog 92 #[.string s] w fun e w' => e = .returned (.string s) ∧ Below w.heap.size w w' := by
  have H57 := hid (clone57 s w h)
  go_enter Tryz.func92, Tryz.ntmps92
  go_wp2_with (go_at_call 109; refine H57.out.mono ?_; rintro e w1 ⟨rfl, hb1⟩)
  go_ret
  exact ⟨rfl, hb1⟩

theorem countS_range (most : Int) (s : RS) (hm : 0 ≤ most) : 0 ≤ (countS most s).1 ∧ (countS most s).1 ≤ most := by
  unfold countS
  split
  · simp [hm]
  · omega
theorem grown_below {w w' : World} {q : Nat} (hb : Below w.heap.size w w') : w.grownBy w' (some q) := ⟨hb.os, hb.tape, hb.output, hb.size, fun k hk _ => hb.block k hk⟩

theorem grown_box {w w3 : World} {O : Obj} {q : Nat} (hg : (w.alloc O).grownBy w3 (some q)) (hq : q < w.heap.size) : w3.heap[w.heap.size]? = some O :=
  (hg.block w.heap.size (by simp) (fun e => by cases e; omega)).trans (heap_alloc_new w O)
theorem grown_set {w w3 : World} {q : Nat} (hg : w.grownBy w3 (some q)) (b j : Nat) (v : Value) (hb : w.heap.size ≤ b) : w.grownBy (w3.setCell ⟨b, j, none⟩ v) (some q) :=
  hg.andThen (Lib.grownBy_setCell w3 b j v) (fun k hk => by cases hk; exact .inl hb)

end Go.Proofs.YtclldpecbocclaaGreat

