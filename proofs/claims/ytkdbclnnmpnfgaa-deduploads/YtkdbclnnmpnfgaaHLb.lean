/- One mark laid into a row of its own, as one step of a region. -/
import Derived.Test.YtkdbclnnmpnfgaaHLa
namespace Go.Proofs.Ytkdbclnnmpnfgaa
open Go.RowKit Go.Maps
set_option maxRecDepth 100000
set_option linter.unusedSimpArgs false
set_option linter.unusedVariables false
set_option maxHeartbeats 1600000 in
theorem step_one {ops : Array Oper} {o : Oper} {a : Act} {w : World} {K : Act → World → Prop} {Q : Exit → Act → World → Prop} {E : Prop} (hg : o.guard = none) (x : Nat)
    (ho : o.op = .buildSlice 56 1 #[(0, .tmp x)]) (c0 c1 c2 c3 c4 : Int) (hx : a.eval (.tmp x) = .agg #[.int .i64 c0, .int .i64 c1, .int .i64 c2, .int .i64 c3, .int .i64 c4])
    (hK : K (a.put o.dst (.slice (some ⟨w.heap.size, 0, none⟩) 1 1)) (w.alloc (.cells #[.int .i64 c0, .int .i64 c1, .int .i64 c2, .int .i64 c3, .int .i64 c4] 70))) :
    if Region.wanted o (yielded ops a.tmps) = true then Oper.wp Try.prog o a w K Q else E := by
  have hw : Region.wanted o (yielded ops a.tmps) = true := by simp [Region.wanted, hg]
  rw [if_pos hw]
  unfold Oper.wp execOp
  rw [ho]
  have hx' : a.tmps[x]?.getD undef = .agg #[.int .i64 c0, .int .i64 c1, .int .i64 c2, .int .i64 c3, .int .i64 c4] := by simpa [Act.eval] using hx
  go_simp
  exact hK
/-- A store of one cell. -/
theorem step_store {ops : Array Oper} {o : Oper} {a : Act} {w : World} {K : Act → World → Prop} {Q : Exit → Act → World → Prop} {E : Prop} (hg : o.guard = none) (x y : Nat)
    (ho : o.op = .store 56 (.tmp x) (.tmp y)) (r g n c : Nat) (hx : a.eval (.tmp x) = .pointer (some ⟨r, 0, none⟩)) (hy : a.eval (.tmp y) = .slice (some ⟨g, 0, none⟩) n c) (u : Value) (h1 : w.cell? ⟨r, 0, none⟩ = some u) (h2 : w.frozen? ⟨r, 0, none⟩ = false)
    (hK : K (a.put o.dst undef) (w.setCell ⟨r, 0, none⟩ (.slice (some ⟨g, 0, none⟩) n c))) :
    if Region.wanted o (yielded ops a.tmps) = true then Oper.wp Try.prog o a w K Q else E := by
  have hw : Region.wanted o (yielded ops a.tmps) = true := by simp [Region.wanted, hg]
  rw [if_pos hw]
  unfold Oper.wp execOp
  rw [ho]
  have hx' : a.tmps[x]?.getD undef = .pointer (some ⟨r, 0, none⟩) := by simpa [Act.eval] using hx
  have hy' : a.tmps[y]?.getD undef = .slice (some ⟨g, 0, none⟩) n c := by simpa [Act.eval] using hy
  go_simp
  exact hK
theorem put_eval (a : Act) (d x : Nat) (v : Value) : (a.put (some d) v).eval (.tmp x) = if d = x ∧ d < a.tmps.size then v else a.eval (.tmp x) := by
  simp only [Act.eval, Act.put, Array.getElem?_setIfInBounds]
  by_cases h : d = x
  · subst h
    by_cases h2 : d < a.tmps.size
    · simp [h2]
    · simp [h2]
  · simp [h]
theorem put_size (a : Act) (d : Nat) (v : Value) : (a.put (some d) v).tmps.size = a.tmps.size := by simp [Act.put]
theorem opaque_act {P : Program} {c : Code} {Q : Exit → Act → World → Prop} {a : Act} {w : World} (h : ∀ a', a' = a → c.wp P Q a' w) : c.wp P Q a w := h a rfl
theorem yields_move {ops : Array Oper} {o : Oper} {a : Act} {S : World → Prop} {v : Value} (hg : o.guard = none) (x : Nat) (ho : o.op = .move (.tmp x)) (hx : a.eval (.tmp x) = v) : YieldsIf Try.prog ops S o v a := by
  refine .inl ⟨by simp [Region.wanted, hg], fun w _ => ?_⟩
  unfold execOp
  rw [ho]
  subst hx
  simp [go_sem]
theorem yields_load56 {ops : Array Oper} {o : Oper} {a : Act} {S : World → Prop} (hg : o.guard = none) (x r : Nat) (ho : o.op = .load 56 (.tmp x)) (hx : a.eval (.tmp x) = .pointer (some ⟨r, 0, none⟩)) (v : Value) (hS : ∀ w, S w → w.cell? ⟨r, 0, none⟩ = some v) : YieldsIf Try.prog ops S o v a := by
  refine .inl ⟨by simp [Region.wanted, hg], fun w hw => ?_⟩
  unfold execOp
  rw [ho]
  have hx' : a.tmps[x]?.getD undef = .pointer (some ⟨r, 0, none⟩) := by simpa [Act.eval] using hx
  have hc := hS w hw
  go_simp
theorem yields_load70 {ops : Array Oper} {o : Oper} {a : Act} {S : World → Prop} (hg : o.guard = none) (x r : Nat) (ho : o.op = .load 70 (.tmp x)) (hx : a.eval (.tmp x) = .pointer (some ⟨r, 0, none⟩)) (c0 c1 c2 c3 c4 : Int) (hS : ∀ w, S w → w.heap[r]? = some (.cells #[.int .i64 c0, .int .i64 c1, .int .i64 c2, .int .i64 c3, .int .i64 c4] 70)) : YieldsIf Try.prog ops S o (.agg #[.int .i64 c0, .int .i64 c1, .int .i64 c2, .int .i64 c3, .int .i64 c4]) a := by
  refine .inl ⟨by simp [Region.wanted, hg], fun w hw => ?_⟩
  unfold execOp
  rw [ho]
  have hx' : a.tmps[x]?.getD undef = .pointer (some ⟨r, 0, none⟩) := by simpa [Act.eval] using hx
  have hc := hS w hw
  have l0 := cell_blk hc 0 _ rfl
  have l1 := cell_blk hc 1 _ rfl
  have l2 := cell_blk hc 2 _ rfl
  have l3 := cell_blk hc 3 _ rfl
  have l4 := cell_blk hc 4 _ rfl
  go_simp
theorem yields_nil {ops : Array Oper} {o : Oper} {a : Act} {S : World → Prop} (hg : o.guard = none) (x r : Nat) (ho : o.op = .nilCheck (.tmp x)) (hx : a.eval (.tmp x) = .pointer (some ⟨r, 0, none⟩)) : YieldsIf Try.prog ops S o (.pointer (some ⟨r, 0, none⟩)) a := by
  refine .inl ⟨by simp [Region.wanted, hg], fun w _ => ?_⟩
  unfold execOp
  rw [ho]
  have hx' : a.tmps[x]?.getD undef = .pointer (some ⟨r, 0, none⟩) := by simpa [Act.eval] using hx
  go_simp
theorem yields_field {ops : Array Oper} {o : Oper} {a : Act} {S : World → Prop} (hg : o.guard = none) (x r : Nat) (ho : o.op = .fieldAddr 58 (.tmp x) 0) (hx : a.eval (.tmp x) = .pointer (some ⟨r, 0, none⟩)) : YieldsIf Try.prog ops S o (.pointer (some ⟨r, 0, none⟩)) a := by
  refine .inl ⟨by simp [Region.wanted, hg], fun w _ => ?_⟩
  unfold execOp
  rw [ho]
  have hx' : a.tmps[x]?.getD undef = .pointer (some ⟨r, 0, none⟩) := by simpa [Act.eval] using hx
  go_simp
end Go.Proofs.Ytkdbclnnmpnfgaa

