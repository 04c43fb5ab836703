/- A batch's body, written. -/
import Derived.Test.YtbgmehanhilicaaK6
namespace Go.Proofs.Ytbgmehanhilicaa
open Go.RowKit Go.Maps
set_option linter.unusedSimpArgs false
set_option linter.unusedVariables false
set_option maxRecDepth 100000

theorem cell_blk {w : World} {q : Nat} {cs : Array Value} {T : TypeId} {mk : Nat × Nat} (h : w.heap[q]? = some (.cells cs T mk)) (j : Nat) (u : Value) (hu : cs[j]? = some u) : w.cell? ⟨q, j, none⟩ = some u := by
  show (match w.heap[q]? with | some (.cells c _ _) => c[j]? | _ => none) = _
  rw [h]
  exact hu
theorem Row.lt {w : World} {B : Nat} {v : Value} {l : List UInt8} (h : Row w B v l) : ∀ k, v.ownBlock = some k → k < w.heap.size := fun k hk => (World.ownsRow.lt h k hk).2
theorem kept_box {wr w1 : World} {B : Nat} {v v1 : Value} {m : List UInt8} {cs : Array Value} {T : TypeId} (hr : Row wr B v m) (g : Grow (wr.alloc (.cells cs T)) w1 v v1) :
    w1.heap[wr.heap.size]? = some (.cells cs T) ∧ v1.ownBlock ≠ some wr.heap.size ∧ wr.heap.size < w1.heap.size := by
  have h := g.block (q := wr.heap.size) (by simp) (fun e => by have := hr.lt _ e; omega)
  exact ⟨h.1.trans (heap_alloc_new wr _), h.2⟩

/-- Where batchBody stands behind k records. -/
structure BodyAt (w : World) (B : Nat) (b : Bat) (k : Nat) (v : Value) (wr : World) : Prop where
  row : Row wr B v (intsL (numsOf b) ++ intL b.recs.length ++ recsL (b.recs.take k))
  below : Below w.heap.size w wr
  base : w.heap.size ≤ B
  size : B ≤ wr.heap.size

theorem recs_take (rs : List Rec) (k : Nat) (h : k < rs.length) : recsL (rs.take (k + 1)) = recsL (rs.take k) ++ recL rs[k] := by
  rw [List.take_succ_eq_append_getElem h, recsL_snoc]

theorem body_short (b : Bat) (hn : b.recs.length ≤ 64) (ht : ∀ r ∈ b.recs, r.key.length ≤ 1000 ∧ r.val.length ≤ 1000) (k : Nat) : (intsL (numsOf b) ++ intL b.recs.length ++ recsL (b.recs.take k)).length ≤ 1000000 := by
  have h1 := intsL_length (numsOf b)
  have h2 := intL_length (b.recs.length : Int)
  have h3 := recsL_length 1000 (b.recs.take k) (fun r hr => ht r (List.mem_of_mem_take hr))
  have h4 : (b.recs.take k).length ≤ 64 := by simp; omega
  have h5 : (numsOf b).length = 5 := rfl
  have h6 : (b.recs.take k).length * (30 + 2 * 1000) ≤ 64 * (30 + 2 * 1000) := Nat.mul_le_mul_right _ h4
  simp only [List.length_append]
  omega

theorem BodyAt.next {w : World} {B : Nat} {b : Bat} {k : Nat} {v : Value} {wr : World} (h : BodyAt w B b k v wr) (hk : k < b.recs.length) {O : Obj} {w1 w2 w3 : World} {v3 : Value} {M : List UInt8}
    (hM : M = intsL (numsOf b) ++ intL b.recs.length ++ recsL (b.recs.take k)) (r3 : Row w3 B v3 (M ++ intL b.recs[k].time ++ textL b.recs[k].key ++ textL b.recs[k].val)) (b1 : Below B (wr.alloc O) w1) (b2 : Below B w1 w2) (b3 : Below B w2 w3) : BodyAt w B b (k + 1) v3 w3 := by
  have hb := h.base
  have hs := h.size
  refine ⟨?_, ?_, hb, ?_⟩
  · rw [recs_take _ k hk]
    have e : intsL (numsOf b) ++ intL b.recs.length ++ (recsL (b.recs.take k) ++ recL b.recs[k]) = M ++ intL b.recs[k].time ++ textL b.recs[k].key ++ textL b.recs[k].val := by
      rw [hM]; simp [recL]
    rw [e]; exact r3
  · exact (((h.below.alloc (Nat.le_trans hb hs) O).trans (b1.mono hb)).trans (b2.mono hb)).trans (b3.mono hb)
  · have h1 := b1.size; have h2 := b2.size; have h3 := b3.size
    simp at h1; omega

end Go.Proofs.Ytbgmehanhilicaa

/- Right and Batch. -/
namespace Go.Proofs.Ytbgmehanhilicaa
open Go.RowKit Go.Maps
set_option linter.unusedSimpArgs false
set_option linter.unusedVariables false
set_option maxRecDepth 100000

/-- A box of the call's own that is as it was laid. -/
structure Boxed (w W : World) (O : Obj) : Prop where
  below : Below w.heap.size w W
  box : W.heap[w.heap.size]? = some O
theorem Boxed.lt {w W : World} {O : Obj} (h : Boxed w W O) : w.heap.size < W.heap.size := by
  rcases Nat.lt_or_ge w.heap.size W.heap.size with h1 | h1
  · exact h1
  · have := h.box; rw [Array.getElem?_eq_none h1] at this; cases this
theorem Boxed.laid (w : World) (O : Obj) : Boxed w (w.alloc O) O := ⟨(Below.refl _ _).alloc (Nat.le_refl _) _, heap_alloc_new w O⟩
theorem Boxed.next {w W W' : World} {O : Obj} (h : Boxed w W O) (hb : Below W.heap.size W W') : Boxed w W' O := ⟨h.below.trans (hb.mono (Nat.le_of_lt h.lt)), (hb.block _ h.lt).trans h.box⟩
theorem six {w W : World} {a0 a1 a2 a3 a4 a5 : Value} {T : TypeId} (h : Boxed w W (.cells #[a0, a1, a2, a3, a4, a5] T)) :
    W.cell? ⟨w.heap.size, 0, none⟩ = some a0 ∧ W.cell? ⟨w.heap.size, 1, none⟩ = some a1 ∧ W.cell? ⟨w.heap.size, 2, none⟩ = some a2 ∧ W.cell? ⟨w.heap.size, 3, none⟩ = some a3 ∧ W.cell? ⟨w.heap.size, 4, none⟩ = some a4 ∧ W.cell? ⟨w.heap.size, 5, none⟩ = some a5 :=
  ⟨cell_blk h.box 0 a0 rfl, cell_blk h.box 1 a1 rfl, cell_blk h.box 2 a2 rfl, cell_blk h.box 3 a3 rfl, cell_blk h.box 4 a4 rfl, cell_blk h.box 5 a5 rfl⟩

theorem long_no {l : List Rec} (h : longB l = false) : ∀ r ∈ l, r.key.length ≤ 1000 ∧ r.val.length ≤ 1000 := by
  intro r hr
  simp only [longB, List.any_eq_false, Bool.or_eq_true, decide_eq_true_eq] at h
  have c := h r hr
  omega

end Go.Proofs.Ytbgmehanhilicaa

/- Batch of wire. -/
namespace Go.Proofs.Ytbgmehanhilicaa
open Go.RowKit Go.Maps
set_option linter.unusedSimpArgs false
set_option linter.unusedVariables false
set_option maxRecDepth 100000

theorem strOf_append (l m : List UInt8) : strOf l ++ strOf m = strOf (l ++ m) := by
  apply ByteArray.ext
  simp [strOf]

theorem right_facts {b : Bat} (h : rightL b = 0) : b.recs.length ≤ 64 ∧ (∀ r ∈ b.recs, r.key.length ≤ 1000 ∧ r.val.length ≤ 1000) ∧ (bodyL b).length ≤ 4088 := by
  obtain ⟨_, _, _, h4, h5, _, h7⟩ := rightL_ok h
  exact ⟨h4, long_no h5, h7⟩

end Go.Proofs.Ytbgmehanhilicaa

