/- Steps of regions that draw their order. -/
import Derived.Test.YtcffomhcmilcpaaGreatLa
import Derived.Deep.AppendLies
namespace Go.Proofs.YtcffomhcmilcpaaGreat
open Go.RowKit Go.Maps
set_option maxRecDepth 100000
set_option linter.unusedSimpArgs false
set_option linter.unusedVariables false
theorem put_eval (a : Act) (d x : Nat) (v : Value) : (a.put (some d) v).eval (.tmp x) = if d = x ∧ d < a.tmps.size then v else a.eval (.tmp x) := by
  simp only [Act.eval, Act.put, Array.getElem?_setIfInBounds]
  by_cases h : d = x
  · subst h
    by_cases h2 : d < a.tmps.size
    · simp [h2]
    · simp [h2]
  · simp [h]
theorem put_size (a : Act) (d : Nat) (v : Value) : (a.put (some d) v).tmps.size = a.tmps.size := by simp [Act.put]
theorem yields_move {ops : Array Oper} {o : Oper} {a : Act} {S : World → Prop} {v : Value} (hg : o.guard = none) (x : Nat) (ho : o.op = .move (.tmp x)) (hx : a.eval (.tmp x) = v) : YieldsIf Tryz.prog ops S o v a := by
  refine .inl ⟨by simp [Region.wanted, hg], fun w _ => ?_⟩
  unfold execOp
  rw [ho]
  subst hx
  simp [go_sem]
theorem yields_nil {ops : Array Oper} {o : Oper} {a : Act} {S : World → Prop} (hg : o.guard = none) (x r : Nat) (ho : o.op = .nilCheck (.tmp x)) (hx : a.eval (.tmp x) = .pointer (some ⟨r, 0, none⟩)) : YieldsIf Tryz.prog ops S o (.pointer (some ⟨r, 0, none⟩)) a := by
  refine .inl ⟨by simp [Region.wanted, hg], fun w _ => ?_⟩
  unfold execOp
  rw [ho]
  have hx' : a.tmps[x]?.getD undef = .pointer (some ⟨r, 0, none⟩) := by simpa [Act.eval] using hx
  go_simp
theorem yields_field70_2 {ops : Array Oper} {o : Oper} {a : Act} {S : World → Prop} (hg : o.guard = none) (x r : Nat) (ho : o.op = .fieldAddr 70 (.tmp x) 2) (hx : a.eval (.tmp x) = .pointer (some ⟨r, 0, none⟩)) : YieldsIf Tryz.prog ops S o (.pointer (some ⟨r, 2, none⟩)) a := by
  refine .inl ⟨by simp [Region.wanted, hg], fun w _ => ?_⟩
  unfold execOp
  rw [ho]
  have hx' : a.tmps[x]?.getD undef = .pointer (some ⟨r, 0, none⟩) := by simpa [Act.eval] using hx
  go_simp
theorem yields_field70_3 {ops : Array Oper} {o : Oper} {a : Act} {S : World → Prop} (hg : o.guard = none) (x r : Nat) (ho : o.op = .fieldAddr 70 (.tmp x) 3) (hx : a.eval (.tmp x) = .pointer (some ⟨r, 0, none⟩)) : YieldsIf Tryz.prog ops S o (.pointer (some ⟨r, 3, none⟩)) a := by
  refine .inl ⟨by simp [Region.wanted, hg], fun w _ => ?_⟩
  unfold execOp
  rw [ho]
  have hx' : a.tmps[x]?.getD undef = .pointer (some ⟨r, 0, none⟩) := by simpa [Act.eval] using hx
  go_simp
theorem yields_field34_2 {ops : Array Oper} {o : Oper} {a : Act} {S : World → Prop} (hg : o.guard = none) (x r : Nat) (ho : o.op = .fieldAddr 34 (.tmp x) 2) (hx : a.eval (.tmp x) = .pointer (some ⟨r, 0, none⟩)) : YieldsIf Tryz.prog ops S o (.pointer (some ⟨r, 2, none⟩)) a := by
  refine .inl ⟨by simp [Region.wanted, hg], fun w _ => ?_⟩
  unfold execOp
  rw [ho]
  have hx' : a.tmps[x]?.getD undef = .pointer (some ⟨r, 0, none⟩) := by simpa [Act.eval] using hx
  go_simp
theorem yields_field34_3 {ops : Array Oper} {o : Oper} {a : Act} {S : World → Prop} (hg : o.guard = none) (x r : Nat) (ho : o.op = .fieldAddr 34 (.tmp x) 3) (hx : a.eval (.tmp x) = .pointer (some ⟨r, 0, none⟩)) : YieldsIf Tryz.prog ops S o (.pointer (some ⟨r, 3, none⟩)) a := by
  refine .inl ⟨by simp [Region.wanted, hg], fun w _ => ?_⟩
  unfold execOp
  rw [ho]
  have hx' : a.tmps[x]?.getD undef = .pointer (some ⟨r, 0, none⟩) := by simpa [Act.eval] using hx
  go_simp
theorem yields_load68 {ops : Array Oper} {o : Oper} {a : Act} {S : World → Prop} (hg : o.guard = none) (x r f : Nat) (ho : o.op = .load 68 (.tmp x)) (hx : a.eval (.tmp x) = .pointer (some ⟨r, f, none⟩)) (v : Value) (hS : ∀ w, S w → w.cell? ⟨r, f, none⟩ = some v) : YieldsIf Tryz.prog ops S o v a := by
  refine .inl ⟨by simp [Region.wanted, hg], fun w hw => ?_⟩
  unfold execOp
  rw [ho]
  have hx' : a.tmps[x]?.getD undef = .pointer (some ⟨r, f, none⟩) := by simpa [Act.eval] using hx
  have hc := hS w hw
  go_simp
theorem yields_load30 {ops : Array Oper} {o : Oper} {a : Act} {S : World → Prop} (hg : o.guard = none) (x r f : Nat) (ho : o.op = .load 30 (.tmp x)) (hx : a.eval (.tmp x) = .pointer (some ⟨r, f, none⟩)) (v : Value) (hS : ∀ w, S w → w.cell? ⟨r, f, none⟩ = some v) : YieldsIf Tryz.prog ops S o v a := by
  refine .inl ⟨by simp [Region.wanted, hg], fun w hw => ?_⟩
  unfold execOp
  rw [ho]
  have hx' : a.tmps[x]?.getD undef = .pointer (some ⟨r, f, none⟩) := by simpa [Act.eval] using hx
  have hc := hS w hw
  go_simp
theorem yields_load3 {ops : Array Oper} {o : Oper} {a : Act} {S : World → Prop} (hg : o.guard = none) (x r f : Nat) (ho : o.op = .load 3 (.tmp x)) (hx : a.eval (.tmp x) = .pointer (some ⟨r, f, none⟩)) (v : Value) (hS : ∀ w, S w → w.cell? ⟨r, f, none⟩ = some v) : YieldsIf Tryz.prog ops S o v a := by
  refine .inl ⟨by simp [Region.wanted, hg], fun w hw => ?_⟩
  unfold execOp
  rw [ho]
  have hx' : a.tmps[x]?.getD undef = .pointer (some ⟨r, f, none⟩) := by simpa [Act.eval] using hx
  have hc := hS w hw
  go_simp
theorem yields_load96 {ops : Array Oper} {o : Oper} {a : Act} {S : World → Prop} (hg : o.guard = none) (x r : Nat) (ho : o.op = .load 96 (.tmp x)) (hx : a.eval (.tmp x) = .pointer (some ⟨r, 0, none⟩)) (c0 c1 c2 : Value) (hS : ∀ w, S w → w.heap[r]? = some (.cells #[c0, c1, c2] 96)) : YieldsIf Tryz.prog ops S o (.agg #[c0, c1, c2]) a := by
  refine .inl ⟨by simp [Region.wanted, hg], fun w hw => ?_⟩
  unfold execOp
  rw [ho]
  have hx' : a.tmps[x]?.getD undef = .pointer (some ⟨r, 0, none⟩) := by simpa [Act.eval] using hx
  have hc := hS w hw
  have l0 := cell_blk hc 0 _ rfl
  have l1 := cell_blk hc 1 _ rfl
  have l2 := cell_blk hc 2 _ rfl
  go_simp
set_option maxHeartbeats 1600000 in
theorem step_one68 {ops : Array Oper} {o : Oper} {a : Act} {w : World} {K : Act → World → Prop} {Q : Exit → Act → World → Prop} {E : Prop} (hg : o.guard = none) (x : Nat)
    (ho : o.op = .buildSlice 68 1 #[(0, .tmp x)]) (s : ByteArray) (c1 c2 : Int) (hx : a.eval (.tmp x) = .agg #[.string s, .int .i64 c1, .int .i64 c2])
    (hK : K (a.put o.dst (.slice (some ⟨w.heap.size, 0, none⟩) 1 1)) (w.alloc (.cells #[.string s, .int .i64 c1, .int .i64 c2] 96))) :
    if Region.wanted o (yielded ops a.tmps) = true then Oper.wp Tryz.prog o a w K Q else E := by
  have hw : Region.wanted o (yielded ops a.tmps) = true := by simp [Region.wanted, hg]
  rw [if_pos hw]
  unfold Oper.wp execOp
  rw [ho]
  have hx' : a.tmps[x]?.getD undef = .agg #[.string s, .int .i64 c1, .int .i64 c2] := by simpa [Act.eval] using hx
  go_simp
  exact hK
set_option maxHeartbeats 1600000 in
theorem step_one30 {ops : Array Oper} {o : Oper} {a : Act} {w : World} {K : Act → World → Prop} {Q : Exit → Act → World → Prop} {E : Prop} (hg : o.guard = none) (x : Nat)
    (ho : o.op = .buildSlice 30 1 #[(0, .tmp x)]) (c0 c1 c2 c3 c8 : Int) (a4 a5 a6 a7 : Option Addr) (n4 n5 n6 n7 k4 k5 k6 k7 : Nat) (hx : a.eval (.tmp x) = .agg #[.int .i64 c0, .int .i64 c1, .int .i64 c2, .int .i64 c3, .slice a4 n4 k4, .slice a5 n5 k5, .slice a6 n6 k6, .slice a7 n7 k7, .int .i64 c8])
    (hK : K (a.put o.dst (.slice (some ⟨w.heap.size, 0, none⟩) 1 1)) (w.alloc (.cells #[.int .i64 c0, .int .i64 c1, .int .i64 c2, .int .i64 c3, .slice a4 n4 k4, .slice a5 n5 k5, .slice a6 n6 k6, .slice a7 n7 k7, .int .i64 c8] 54))) :
    if Region.wanted o (yielded ops a.tmps) = true then Oper.wp Tryz.prog o a w K Q else E := by
  have hw : Region.wanted o (yielded ops a.tmps) = true := by simp [Region.wanted, hg]
  rw [if_pos hw]
  unfold Oper.wp execOp
  rw [ho]
  have hx' : a.tmps[x]?.getD undef = .agg #[.int .i64 c0, .int .i64 c1, .int .i64 c2, .int .i64 c3, .slice a4 n4 k4, .slice a5 n5 k5, .slice a6 n6 k6, .slice a7 n7 k7, .int .i64 c8] := by simpa [Act.eval] using hx
  go_simp
  exact hK
theorem step_store68 {ops : Array Oper} {o : Oper} {a : Act} {w : World} {K : Act → World → Prop} {Q : Exit → Act → World → Prop} {E : Prop} (hg : o.guard = none) (x y : Nat)
    (ho : o.op = .store 68 (.tmp x) (.tmp y)) (r f g n c : Nat) (hx : a.eval (.tmp x) = .pointer (some ⟨r, f, none⟩)) (hy : a.eval (.tmp y) = .slice (some ⟨g, 0, none⟩) n c) (u : Value) (h1 : w.cell? ⟨r, f, none⟩ = some u) (h2 : w.frozen? ⟨r, f, none⟩ = false)
    (hK : K (a.put o.dst undef) (w.setCell ⟨r, f, none⟩ (.slice (some ⟨g, 0, none⟩) n c))) :
    if Region.wanted o (yielded ops a.tmps) = true then Oper.wp Tryz.prog o a w K Q else E := by
  have hw : Region.wanted o (yielded ops a.tmps) = true := by simp [Region.wanted, hg]
  rw [if_pos hw]
  unfold Oper.wp execOp
  rw [ho]
  have hx' : a.tmps[x]?.getD undef = .pointer (some ⟨r, f, none⟩) := by simpa [Act.eval] using hx
  have hy' : a.tmps[y]?.getD undef = .slice (some ⟨g, 0, none⟩) n c := by simpa [Act.eval] using hy
  go_simp
  exact hK
/-- One alone may come up: the last store. -/
theorem ButLast.store68 {md : Region.Mode} {ops : Array Oper} {Q : Exit → Act → World → Prop} {S : World → Prop} {z : Nat} (i : Nat) {o : Oper} {n : Nat} {gone : Array Bool} {a : Act} {w : World} (hr : Region.ready md ops gone = [i]) (ho : ops[i]? = some o) (hg : o.guard = none) (x y : Nat)
    (hop : o.op = .store 68 (.tmp x) (.tmp y)) (r f g m c : Nat) (hx : a.eval (.tmp x) = .pointer (some ⟨r, f, none⟩)) (hy : a.eval (.tmp y) = .slice (some ⟨g, 0, none⟩) m c) (u : Value) (h1 : w.cell? ⟨r, f, none⟩ = some u) (h2 : w.frozen? ⟨r, f, none⟩ = false)
    (hS : i ≠ z → S (w.setCell ⟨r, f, none⟩ (.slice (some ⟨g, 0, none⟩) m c))) (H : ButLast Tryz.prog md ops Q S z n (gone.setIfInBounds i true) (a.put o.dst undef) (w.setCell ⟨r, f, none⟩ (.slice (some ⟨g, 0, none⟩) m c))) : ButLast Tryz.prog md ops Q S z (n + 1) gone a w :=
  ButLast.one i hr ho (fun K hK => step_store68 hg x y hop r f g m c hx hy u h1 h2 (hK.out _ _ hS H))
theorem step_store30 {ops : Array Oper} {o : Oper} {a : Act} {w : World} {K : Act → World → Prop} {Q : Exit → Act → World → Prop} {E : Prop} (hg : o.guard = none) (x y : Nat)
    (ho : o.op = .store 30 (.tmp x) (.tmp y)) (r f g n c : Nat) (hx : a.eval (.tmp x) = .pointer (some ⟨r, f, none⟩)) (hy : a.eval (.tmp y) = .slice (some ⟨g, 0, none⟩) n c) (u : Value) (h1 : w.cell? ⟨r, f, none⟩ = some u) (h2 : w.frozen? ⟨r, f, none⟩ = false)
    (hK : K (a.put o.dst undef) (w.setCell ⟨r, f, none⟩ (.slice (some ⟨g, 0, none⟩) n c))) :
    if Region.wanted o (yielded ops a.tmps) = true then Oper.wp Tryz.prog o a w K Q else E := by
  have hw : Region.wanted o (yielded ops a.tmps) = true := by simp [Region.wanted, hg]
  rw [if_pos hw]
  unfold Oper.wp execOp
  rw [ho]
  have hx' : a.tmps[x]?.getD undef = .pointer (some ⟨r, f, none⟩) := by simpa [Act.eval] using hx
  have hy' : a.tmps[y]?.getD undef = .slice (some ⟨g, 0, none⟩) n c := by simpa [Act.eval] using hy
  go_simp
  exact hK
/-- One alone may come up: the last store. -/
theorem ButLast.store30 {md : Region.Mode} {ops : Array Oper} {Q : Exit → Act → World → Prop} {S : World → Prop} {z : Nat} (i : Nat) {o : Oper} {n : Nat} {gone : Array Bool} {a : Act} {w : World} (hr : Region.ready md ops gone = [i]) (ho : ops[i]? = some o) (hg : o.guard = none) (x y : Nat)
    (hop : o.op = .store 30 (.tmp x) (.tmp y)) (r f g m c : Nat) (hx : a.eval (.tmp x) = .pointer (some ⟨r, f, none⟩)) (hy : a.eval (.tmp y) = .slice (some ⟨g, 0, none⟩) m c) (u : Value) (h1 : w.cell? ⟨r, f, none⟩ = some u) (h2 : w.frozen? ⟨r, f, none⟩ = false)
    (hS : i ≠ z → S (w.setCell ⟨r, f, none⟩ (.slice (some ⟨g, 0, none⟩) m c))) (H : ButLast Tryz.prog md ops Q S z n (gone.setIfInBounds i true) (a.put o.dst undef) (w.setCell ⟨r, f, none⟩ (.slice (some ⟨g, 0, none⟩) m c))) : ButLast Tryz.prog md ops Q S z (n + 1) gone a w :=
  ButLast.one i hr ho (fun K hK => step_store30 hg x y hop r f g m c hx hy u h1 h2 (hK.out _ _ hS H))
end Go.Proofs.YtcffomhcmilcpaaGreat
