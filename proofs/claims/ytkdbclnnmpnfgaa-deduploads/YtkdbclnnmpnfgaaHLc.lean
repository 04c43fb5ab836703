/- The row of marks of the document's Load grows by one: one region, over any frame. -/
import Derived.Test.YtkdbclnnmpnfgaaHLb
import Derived.Deep.AppendLies
import Derived.Deep.RegionHeldLaw
import Derived.Deep.RegionHeld3
namespace Go.Proofs.Ytkdbclnnmpnfgaa
open Go.RowKit Go.Maps
set_option maxRecDepth 100000
set_option linter.unusedSimpArgs false
set_option linter.unusedVariables false
@[reducible] def o28x0 : Oper := { dst := some 156, op := Op.move (Operand.tmp 5), type := 26, pos := "ref.go:203", after := #[], guard := none }
@[reducible] def o28x1 : Oper := { dst := some 157, op := Op.move (Operand.tmp 5), type := 26, pos := "ref.go:203", after := #[], guard := none }
@[reducible] def o28x2 : Oper := { dst := some 158, op := Op.nilCheck (Operand.tmp 157), type := 0, pos := "ref.go:203", after := #[{ on := 1, ground := Ground.data }], guard := none }
@[reducible] def o28x3 : Oper := { dst := some 159, op := Op.fieldAddr 58 (Operand.tmp 158) 0, type := 0, pos := "ref.go:203", after := #[{ on := 2, ground := Ground.data }], guard := none }
@[reducible] def o28x4 : Oper := { dst := some 160, op := Op.load 56 (Operand.tmp 159), type := 56, pos := "ref.go:203", after := #[{ on := 3, ground := Ground.data }], guard := none }
@[reducible] def o28x5 : Oper := { dst := some 161, op := Op.load 70 (Operand.tmp 13), type := 70, pos := "ref.go:203", after := #[], guard := none }
@[reducible] def o28x6 : Oper := { dst := some 162, op := Op.buildSlice 56 1 #[(0, Operand.tmp 161)], type := 56, pos := "ref.go:203", after := #[{ on := 5, ground := Ground.data }], guard := none }
@[reducible] def o28x7 : Oper := { dst := some 163, op := Op.call ({ callee := Callee.builtin Builtin.append, args := #[Operand.tmp 160, Operand.tmp 162], argTypes := #[56, 56] }), type := 56, pos := "ref.go:203", after := #[{ on := 4, ground := Ground.data }, { on := 6, ground := Ground.data }], guard := none }
@[reducible] def o28x8 : Oper := { dst := some 164, op := Op.nilCheck (Operand.tmp 156), type := 0, pos := "ref.go:203", after := #[{ on := 0, ground := Ground.data }, { on := 0, ground := Ground.phase }, { on := 1, ground := Ground.phase }, { on := 2, ground := Ground.phase }, { on := 3, ground := Ground.phase }, { on := 4, ground := Ground.phase }, { on := 5, ground := Ground.phase }, { on := 6, ground := Ground.phase }, { on := 7, ground := Ground.phase }], guard := none }
@[reducible] def o28x9 : Oper := { dst := some 165, op := Op.fieldAddr 58 (Operand.tmp 164) 0, type := 0, pos := "ref.go:203", after := #[{ on := 8, ground := Ground.data }, { on := 0, ground := Ground.phase }, { on := 1, ground := Ground.phase }, { on := 2, ground := Ground.phase }, { on := 3, ground := Ground.phase }, { on := 4, ground := Ground.phase }, { on := 5, ground := Ground.phase }, { on := 6, ground := Ground.phase }, { on := 7, ground := Ground.phase }], guard := none }
@[reducible] def o28x10 : Oper := { dst := none, op := Op.store 56 (Operand.tmp 165) (Operand.tmp 163), type := 0, pos := "ref.go:203", after := #[{ on := 9, ground := Ground.data }, { on := 7, ground := Ground.data }, { on := 7, ground := Ground.chain }, { on := 0, ground := Ground.phase }, { on := 1, ground := Ground.phase }, { on := 2, ground := Ground.phase }, { on := 3, ground := Ground.phase }, { on := 4, ground := Ground.phase }, { on := 5, ground := Ground.phase }, { on := 6, ground := Ground.phase }, { on := 7, ground := Ground.phase }], guard := none }
@[reducible] def ops28 : Array Oper := #[o28x0, o28x1, o28x2, o28x3, o28x4, o28x5, o28x6, o28x7, o28x8, o28x9, o28x10]
/-- A store of one cell, one alone may come up. -/
theorem ButLast.store56 {md : Region.Mode} {ops : Array Oper} {Q : Exit → Act → World → Prop} {S : World → Prop} {z : Nat} (i : Nat) {o : Oper} {n : Nat} {gone : Array Bool} {a : Act} {w : World} (hr : Region.ready md ops gone = [i]) (ho : ops[i]? = some o) (hg : o.guard = none) (x y : Nat)
    (hop : o.op = .store 56 (.tmp x) (.tmp y)) (r g m c : Nat) (hx : a.eval (.tmp x) = .pointer (some ⟨r, 0, none⟩)) (hy : a.eval (.tmp y) = .slice (some ⟨g, 0, none⟩) m c) (u : Value) (h1 : w.cell? ⟨r, 0, none⟩ = some u) (h2 : w.frozen? ⟨r, 0, none⟩ = false)
    (hS : i ≠ z → S (w.setCell ⟨r, 0, none⟩ (.slice (some ⟨g, 0, none⟩) m c))) (H : ButLast Try.prog md ops Q S z n (gone.setIfInBounds i true) (a.put o.dst undef) (w.setCell ⟨r, 0, none⟩ (.slice (some ⟨g, 0, none⟩) m c))) : ButLast Try.prog md ops Q S z (n + 1) gone a w :=
  ButLast.one i hr ho (fun K hK => step_store hg x y hop r g m c hx hy u h1 h2 (hK.out _ _ hS H))
set_option maxHeartbeats 4000000 in
theorem region28 {Q : Exit → Act → World → Prop} (a : Act) (w W2 : World) (rq r px pw : Nat) (s : RS) (ms : List Mk) (oa : Option Addr) (cp : Nat) (cw : Array Value) (pid xe xs xn xo : Int)
    (HX : R2x w W2 rq r s ms (.slice oa ms.length cp) pw cw px #[.int .i64 pid, .int .i64 xe, .int .i64 xs, .int .i64 xn, .int .i64 xo]) (hml : ms.length ≤ 100000)
    (h5 : a.eval (.tmp 5) = .pointer (some ⟨r, 0, none⟩)) (h13 : a.eval (.tmp 13) = .pointer (some ⟨px, 0, none⟩)) (hsz : a.tmps.size = 183)
    (hQ : ∀ (g c : Nat) (W3 : World), R2x w W3 rq r s (ms ++ [(pid, ⟨xe, xs, xn, xo⟩)]) (.slice (some ⟨g, 0, none⟩) (ms.length + 1) c) pw cw px #[.int .i64 pid, .int .i64 xe, .int .i64 xs, .int .i64 xn, .int .i64 xo] → Q .normal (((((((((((a.put (some 156) (.pointer (some ⟨r, 0, none⟩))).put (some 157) (.pointer (some ⟨r, 0, none⟩))).put (some 158) (.pointer (some ⟨r, 0, none⟩))).put (some 159) (.pointer (some ⟨r, 0, none⟩))).put (some 160) (.slice oa ms.length cp)).put (some 161) (.agg #[.int .i64 pid, .int .i64 xe, .int .i64 xs, .int .i64 xn, .int .i64 xo])).put (some 162) (.slice (some ⟨W2.heap.size, 0, none⟩) 1 1)).put (some 163) (.slice (some ⟨g, 0, none⟩) (ms.length + 1) c)).put (some 164) (.pointer (some ⟨r, 0, none⟩))).put (some 165) (.pointer (some ⟨r, 0, none⟩))).put none undef) W3) :
    (Code.region 28 ops28 true).wp Try.prog Q a W2 := by
  obtain ⟨j0, hj0, hz0, hz1, hz2⟩ := info70
  have hbA : Below W2.heap.size W2 ((W2.alloc (.cells #[.int .i64 pid, .int .i64 xe, .int .i64 xs, .int .i64 xn, .int .i64 xo] 70)).drew) := ((Below.refl _ _).alloc (Nat.le_refl _) _).drew
  have HROW : ((W2.alloc (.cells #[.int .i64 pid, .int .i64 xe, .int .i64 xs, .int .i64 xn, .int .i64 xo] 70)).drew).ownsRow w.heap.size 70 5 (.slice oa ms.length cp) ms.length (flatM ms) := HX.rl.row.under hbA
  have HNEW : ∀ j u, (mcells (pid, ⟨xe, xs, xn, xo⟩))[j]? = some u → ((W2.alloc (.cells #[.int .i64 pid, .int .i64 xe, .int .i64 xs, .int .i64 xn, .int .i64 xo] 70)).drew).cell? ((⟨W2.heap.size, 0, none⟩ : Addr).add j) = some u := fun j u hu => by
    rw [add_lit0]
    refine cell_blk (w := (W2.alloc (.cells #[.int .i64 pid, .int .i64 xe, .int .i64 xs, .int .i64 xn, .int .i64 xo] 70)).drew) (heap_alloc_new W2 (.cells #[.int .i64 pid, .int .i64 xe, .int .i64 xs, .int .i64 xn, .int .i64 xo] 70)) j u ?_
    rw [← hu]
    simp [mcells]
  have HONE : ∀ u ∈ mcells (pid, ⟨xe, xs, xn, xo⟩), u.oneCell' = true := mcells_one _
  have HSZ : ((W2.alloc (.cells #[.int .i64 pid, .int .i64 xe, .int .i64 xs, .int .i64 xn, .int .i64 xo] 70)).drew).heap.size = W2.heap.size + 1 := by simp
  have HNC : (mcells (pid, ⟨xe, xs, xn, xo⟩)).length = 1 * 5 := rfl
  have HG : ∀ (w5 : World) (g c : Nat), w5.ownsRow w.heap.size 70 5 (.slice (some ⟨g, 0, none⟩) (ms.length + 1) c) (ms.length + 1) (flatM ms ++ mcells (pid, ⟨xe, xs, xn, xo⟩)) → ((W2.alloc (.cells #[.int .i64 pid, .int .i64 xe, .int .i64 xs, .int .i64 xn, .int .i64 xo] 70)).drew).grownBy w5 (Value.slice oa ms.length cp).ownBlock → ((Value.slice oa ms.length cp).ownBlock = some g ∨ g = W2.heap.size + 1) → R2x w (w5.setCell ⟨r, 0, none⟩ (.slice (some ⟨g, 0, none⟩) (ms.length + 1) c)) rq r s (ms ++ [(pid, ⟨xe, xs, xn, xo⟩)]) (.slice (some ⟨g, 0, none⟩) (ms.length + 1) c) pw cw px #[.int .i64 pid, .int .i64 xe, .int .i64 xs, .int .i64 xn, .int .i64 xo] ∧ w5.heap[r]? = some (.cells #[.slice oa ms.length cp] 58) ∧ w5.heap[px]? = some (.cells #[.int .i64 pid, .int .i64 xe, .int .i64 xs, .int .i64 xn, .int .i64 xo] 70) := fun w5 g c h1 h2 h3 => by
    refine ⟨HX.push hbA h1 h2 (h3.elim (fun e => .inl e.symm) (fun e => .inr (by show some g = some _; rw [e, HSZ]))), ?_⟩
    have hr5 : w5.heap[r]? = some (.cells #[.slice oa ms.length cp] 58 (0, 0)) := by
      rw [h2.block r (by have := HX.rl.rlt; rw [HSZ]; omega) (fun e => (HX.rl.own r e.symm).2 rfl), hbA.block r HX.rl.rlt]
      exact HX.rl.cells
    refine ⟨hr5, ?_⟩
    rw [h2.block px (by have := lt_blk HX.bx; rw [HSZ]; omega) (fun e => HX.nx.2.2.2 e.symm), hbA.block px (lt_blk HX.bx)]
    exact HX.bx
  have hwW : w.heap.size ≤ ((W2.alloc (.cells #[.int .i64 pid, .int .i64 xe, .int .i64 xs, .int .i64 xn, .int .i64 xo] 70)).drew).heap.size := by have := HX.rl.below.size; rw [HSZ]; omega
  have HS0 : W2.drew.heap[r]? = some (.cells #[.slice oa ms.length cp] 58) ∧ W2.drew.heap[px]? = some (.cells #[.int .i64 pid, .int .i64 xe, .int .i64 xs, .int .i64 xn, .int .i64 xo] 70) := ⟨HX.rl.cells, HX.bx⟩
  have HDD : W2.drew.alloc (.cells #[.int .i64 pid, .int .i64 xe, .int .i64 xs, .int .i64 xn, .int .i64 xo] 70) = (W2.alloc (.cells #[.int .i64 pid, .int .i64 xe, .int .i64 xs, .int .i64 xn, .int .i64 xo] 70)).drew := rfl
  have HS1 : (W2.drew.alloc (.cells #[.int .i64 pid, .int .i64 xe, .int .i64 xs, .int .i64 xn, .int .i64 xo] 70)).heap[r]? = some (.cells #[.slice oa ms.length cp] 58) ∧ (W2.drew.alloc (.cells #[.int .i64 pid, .int .i64 xe, .int .i64 xs, .int .i64 xn, .int .i64 xo] 70)).heap[px]? = some (.cells #[.int .i64 pid, .int .i64 xe, .int .i64 xs, .int .i64 xn, .int .i64 xo] 70) := ⟨(hbA.block r HX.rl.rlt).trans HX.rl.cells, (hbA.block px (lt_blk HX.bx)).trans HX.bx⟩
  clear hbA HX
  generalize hFM : flatM ms = FM at *
  generalize hNC : mcells (pid, ⟨xe, xs, xn, xo⟩) = NC at *
  refine wp_region_noPanic ?_
  refine region_last (fun V => V.heap[r]? = some (.cells #[.slice oa ms.length cp] 58) ∧ V.heap[px]? = some (.cells #[.int .i64 pid, .int .i64 xe, .int .i64 xs, .int .i64 xn, .int .i64 xo] 70)) 10 (by kernel_rfl) ?_
  refine ButLast.take (oi := o28x0) 0 (.pointer (some ⟨r, 0, none⟩)) [9, 8] (by rfl) (by kernel_rfl) (by kernel_rfl) (by kernel_rfl) (by kernel_rfl) (by kernel_rfl) (fun c a w h => h) (yields_move (by rfl) 5 (by rfl) h5) HS0 ?_
  refine ButLast.take (oi := o28x1) 1 (.pointer (some ⟨r, 0, none⟩)) [7, 4, 3, 2] (by rfl) (by kernel_rfl) (by kernel_rfl) (by kernel_rfl) (by kernel_rfl) (by kernel_rfl) (fun c a w h => h) (yields_move (by rfl) 5 (by rfl) (by simp [put_eval, put_size, hsz, h5, h13])) HS0 ?_
  refine ButLast.take (oi := o28x2) 2 (.pointer (some ⟨r, 0, none⟩)) [7, 4, 3] (by rfl) (by kernel_rfl) (by kernel_rfl) (by kernel_rfl) (by kernel_rfl) (by kernel_rfl) (fun c a w h => h) (yields_nil (by rfl) 157 r (by rfl) (by simp [put_eval, put_size, hsz, h5, h13])) HS0 ?_
  refine ButLast.take (oi := o28x3) 3 (.pointer (some ⟨r, 0, none⟩)) [7, 4] (by rfl) (by kernel_rfl) (by kernel_rfl) (by kernel_rfl) (by kernel_rfl) (by kernel_rfl) (fun c a w h => h) (yields_field (by rfl) 158 r (by rfl) (by simp [put_eval, put_size, hsz, h5, h13])) HS0 ?_
  refine ButLast.take (oi := o28x4) 4 (.slice oa ms.length cp) [7] (by rfl) (by kernel_rfl) (by kernel_rfl) (by kernel_rfl) (by kernel_rfl) (by kernel_rfl) (fun c a w h => h) (yields_load56 (by rfl) 159 r (by rfl) (by simp [put_eval, put_size, hsz, h5, h13]) _ (fun V hV => cell_blk hV.1 0 _ rfl)) HS0 ?_
  refine ButLast.take (oi := o28x5) 5 (.agg #[.int .i64 pid, .int .i64 xe, .int .i64 xs, .int .i64 xn, .int .i64 xo]) [7, 6] (by rfl) (by kernel_rfl) (by kernel_rfl) (by kernel_rfl) (by kernel_rfl) (by kernel_rfl) (fun c a w h => h) (yields_load70 (by rfl) 13 px (by rfl) (by simp [put_eval, put_size, hsz, h5, h13]) pid xe xs xn xo (fun V hV => hV.2)) HS0 ?_
  refine ButLast.one (o := o28x6) 6 (by kernel_rfl) (by rfl) (fun K hK => ?_)
  refine step_one (by rfl) 161 (by rfl) pid xe xs xn xo (by simp [put_eval, put_size, hsz, h5, h13]) ?_
  refine hK.out _ _ (fun _ => HS1) ?_
  clear hK K
  rw [HDD]
  refine ButLast.one (o := o28x7) 7 (by kernel_rfl) (by rfl) (fun K hK => ?_)
  refine step_append_lies _ (by rfl) (.tmp 160) (.tmp 162) 56 (by rfl) w.heap.size 70 j0 _ 5 40 Try.underlying56 hj0 hz0 hz1 hz2 rfl (by decide) (.slice oa ms.length cp) ms.length FM (by simp [put_eval, put_size, hsz, h5, h13]) HROW ⟨W2.heap.size, 0, none⟩ 1 1 NC (by simp [put_eval, put_size, hsz, h5, h13]) HNC HNEW HONE (by decide) (by unfold maxLen; omega) (by omega) hwW (W2.heap.size + 1) HSZ ?_
  intro g c w5 hown5 hg5 hat5 hlt5
  obtain ⟨f0, f1, f2⟩ := HG w5 g c hown5 hg5 hat5
  have HS5 : w5.heap[r]? = some (.cells #[.slice oa ms.length cp] 58) ∧ w5.heap[px]? = some (.cells #[.int .i64 pid, .int .i64 xe, .int .i64 xs, .int .i64 xn, .int .i64 xo] 70) := ⟨f1, f2⟩
  refine hK.out _ _ (fun _ => HS5) ?_
  clear hK K
  refine ButLast.take (oi := o28x8) 8 (.pointer (some ⟨r, 0, none⟩)) [9] (by rfl) (by kernel_rfl) (by kernel_rfl) (by kernel_rfl) (by kernel_rfl) (by kernel_rfl) (fun c a w h => h) (yields_nil (by rfl) 156 r (by rfl) (by simp [put_eval, put_size, hsz, h5, h13])) HS5 ?_
  refine ButLast.take (oi := o28x9) 9 (.pointer (some ⟨r, 0, none⟩)) [] (by rfl) (by kernel_rfl) (by kernel_rfl) (by kernel_rfl) (by kernel_rfl) (by kernel_rfl) (fun c a w h => h) (yields_field (by rfl) 164 r (by rfl) (by simp [put_eval, put_size, hsz, h5, h13])) HS5 ?_
  have u0 := cell_blk f1 0 _ rfl
  have u1 := frozen_blk f1 0
  refine ButLast.store56 (o := o28x10) 10 (by kernel_rfl) (by rfl) (by rfl) 165 163 (by rfl) r g (ms.length + 1) c (by simp [put_eval, put_size, hsz, h5, h13]) (by simp [put_eval, put_size, hsz, h5, h13]) (.slice oa ms.length cp) u0 u1 (fun h => absurd rfl h) (ButLast.done (by kernel_rfl) ?_)
  exact NoPanic.normal (hQ g c _ f0)
end Go.Proofs.Ytkdbclnnmpnfgaa

