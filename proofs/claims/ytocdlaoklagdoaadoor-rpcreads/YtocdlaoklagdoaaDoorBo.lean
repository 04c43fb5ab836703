/- bodyOf. -/
import Derived.Test.YtocdlaoklagdoaaDoorAp
import Derived.Deep.MidRow
namespace Go.Proofs.YtocdlaoklagdoaaDoor
open Go.RowKit Go.Maps
set_option linter.unusedSimpArgs false
set_option linter.unusedVariables false
set_option maxRecDepth 100000

theorem yieldsIf_load27 {ops : Array Oper} {S : World → Prop} {op : Oper} {a : Act} (hw : Region.wanted op (yielded ops a.tmps) = true) (x : Operand) (ho : op.op = .load 27 x) (q : Nat) (hx : a.eval x = .pointer (some ⟨q, 0, none⟩)) (cs : Array Value)
    (hS : ∀ w, S w → w.heap[q]? = some (.cells cs 27)) (hn : cs.size = 21) : YieldsIf Tryd.prog ops S op (.agg cs) a :=
  .inl ⟨hw, fun w hw' => by
    unfold execOp
    simp only [ho, hx, Instr.loadAt, Instr.sureAddr, Sem.run_bind, Sem.run_pure, Result.andThen_ok, run_loadVar_row w q 27 27 cs (0, 0) _ (hS w hw') Tryd.underlying27 rfl (by rw [size27, hn])]⟩
theorem step_call1 {ops : Array Oper} {o : Oper} {a : Act} {w : World} {K : Act → World → Prop} {Q : Exit → Act → World → Prop} {E : Prop} {R : Ending → World → Prop} (hg : o.guard = none) (x : Nat)
    (ho : o.op = .call { callee := .value (.func 50), args := #[.tmp x], argTypes := #[61] }) (v : Value) (hx : a.tmps[x]?.getD undef = v) (hc : Calls Tryd.prog 50 #[v] w R) (hR : ∀ e w', R e w' → ∃ u, e = .returned u ∧ K (a.put o.dst u) w') :
    if Region.wanted o (yielded ops a.tmps) = true then Oper.wp Tryd.prog o a w K Q else E := by
  have hw : Region.wanted o (yielded ops a.tmps) = true := by simp [Region.wanted, hg]
  rw [if_pos hw]
  unfold Oper.wp
  simp only [go_sem, ho, hx]
  simp [go_sem, hx]
  refine hc.mono ?_
  rintro e w' hr
  obtain ⟨u, rfl, hK⟩ := hR e w' hr
  exact hK
theorem step_call3 {ops : Array Oper} {o : Oper} {a : Act} {w : World} {K : Act → World → Prop} {Q : Exit → Act → World → Prop} {E : Prop} {R : Ending → World → Prop} (hg : o.guard = none) (x y z : Nat)
    (ho : o.op = .call { callee := .value (.func 49), args := #[.tmp x, .tmp y, .tmp z], argTypes := #[43, 27, 3] }) (v1 v2 v3 : Value) (hx : a.tmps[x]?.getD undef = v1) (hy : a.tmps[y]?.getD undef = v2) (hz : a.tmps[z]?.getD undef = v3) (hc : Calls Tryd.prog 49 #[v1, v2, v3] w R) (hR : ∀ e w', R e w' → ∃ u, e = .returned u ∧ K (a.put o.dst u) w') :
    if Region.wanted o (yielded ops a.tmps) = true then Oper.wp Tryd.prog o a w K Q else E := by
  have hw : Region.wanted o (yielded ops a.tmps) = true := by simp [Region.wanted, hg]
  rw [if_pos hw]
  unfold Oper.wp
  simp only [go_sem, ho, hx, hy, hz]
  simp [go_sem, hx, hy, hz]
  refine hc.mono ?_
  rintro e w' hr
  obtain ⟨u, rfl, hK⟩ := hR e w' hr
  exact hK

set_option maxHeartbeats 3200000 in
theorem bodyOf_any {w : World} (m : Msg) (ba : Option Addr) (bc : Nat) (ea : Option Addr) (ec : Nat) (ia : Option Addr) (ic : Nat) (hk : m.fit) (hh : Here w m ba ea ia) (hT : Tab w) :
    Calls Tryd.prog 33 #[.agg #[.int .i64 m.kind, .int .i64 m.n0, .int .i64 m.n1, .int .i64 m.n2, .int .i64 m.n3, .int .i64 m.n4, .int .i64 m.n5, .int .i64 m.n6, .int .i64 m.n7, .int .i64 m.n8, .int .i64 m.n9, .int .i64 m.n10, .int .i64 m.n11, .int .i64 m.n12, .int .i64 m.n13, .int .i64 m.err, .string (strOf m.name), .string (strOf m.text), .slice ba m.bats.length bc, .slice ea m.ents.length ec, .slice ia m.ints.length ic]] w fun e w' => e = .returned (.string (strOf (bodyM m))) ∧ Below w.heap.size w w' := by
  have hw2 := hT.2
  have hs := sumL_lt m
  obtain ⟨hff, hfk⟩ := first_from m
  have HF := hid hff
  have X0 := hid (Boxed.laid w (.cells #[.int .i64 m.kind, .int .i64 m.n0, .int .i64 m.n1, .int .i64 m.n2, .int .i64 m.n3, .int .i64 m.n4, .int .i64 m.n5, .int .i64 m.n6, .int .i64 m.n7, .int .i64 m.n8, .int .i64 m.n9, .int .i64 m.n10, .int .i64 m.n11, .int .i64 m.n12, .int .i64 m.n13, .int .i64 m.err, .string (strOf m.name), .string (strOf m.text), .slice ba m.bats.length bc, .slice ea m.ents.length ec, .slice ia m.ints.length ic] 27))
  have H47 := hid (partsOf_any (w := w.alloc (.cells #[.int .i64 m.kind, .int .i64 m.n0, .int .i64 m.n1, .int .i64 m.n2, .int .i64 m.n3, .int .i64 m.n4, .int .i64 m.n5, .int .i64 m.n6, .int .i64 m.n7, .int .i64 m.n8, .int .i64 m.n9, .int .i64 m.n10, .int .i64 m.n11, .int .i64 m.n12, .int .i64 m.n13, .int .i64 m.err, .string (strOf m.name), .string (strOf m.text), .slice ba m.bats.length bc, .slice ea m.ents.length ec, .slice ia m.ints.length ic] 27)) m ba bc ea ec ia ic hk.ok)
  have H48 : Hid (∀ w1 : World, w.heap.size ≤ w1.heap.size → Calls Tryd.prog 48 #[.slice none 0 0, .slice (some ⟨w1.heap.size, 0, none⟩) 2 2] (w1.alloc (.cells #[.int .i64 m.kind, .int .i64 (sumL m : Nat)] 3)) fun e w' => ∃ v', e = .returned v' ∧ Row w' w.heap.size v' (intsL [m.kind, (sumL m : Nat)]) ∧ Below w.heap.size w1 w' ∧ Grow w1 w' (.slice none 0 0) v') := fun w1 h1 =>
    two48 (Row.nil w1 w.heap.size) h1 m.kind (sumL m : Nat) hk.ok.kind ⟨by omega, by omega⟩ (by simp)
  have H50 : Hid (∀ W, Below w.heap.size w W → Calls Tryd.prog 50 #[.int .u64 (sumL m : Nat)] W fun e w' => e = .returned (.int .i64 (Lib.ctz 64 (sumL m) : Nat)) ∧ w' = W) := fun W h => tz_any _ (by omega) W (hT.under h hw2)
  have hlen : (intsL [m.kind, (sumL m : Int)]).length ≤ 20 := by have := intsL_length [m.kind, (sumL m : Int)]; simpa using this
  have H49 : Hid (∀ W v, Below w.heap.size w W → Row W w.heap.size v (intsL [m.kind, (sumL m : Nat)]) → Calls Tryd.prog 49 #[v, .agg #[.int .i64 m.kind, .int .i64 m.n0, .int .i64 m.n1, .int .i64 m.n2, .int .i64 m.n3, .int .i64 m.n4, .int .i64 m.n5, .int .i64 m.n6, .int .i64 m.n7, .int .i64 m.n8, .int .i64 m.n9, .int .i64 m.n10, .int .i64 m.n11, .int .i64 m.n12, .int .i64 m.n13, .int .i64 m.err, .string (strOf m.name), .string (strOf m.text), .slice ba m.bats.length bc, .slice ea m.ents.length ec, .slice ia m.ints.length ic], .int .i64 (Lib.ctz 64 (sumL m) : Nat)] W fun e w' => ∃ v', e = .returned v' ∧ Row w' w.heap.size v' (intsL [m.kind, (sumL m : Nat)] ++ fromL (Lib.ctz 64 (sumL m)) m) ∧ Below w.heap.size w w' ∧ Grow W w' v v') := fun W v h1 h2 => appendParts_any h1 h2 hlen m ba bc ea ec ia ic hk hh _ hfk
  have HB : Hid (bodyM m = intsL [m.kind, (sumL m : Nat)] ++ fromL (Lib.ctz 64 (sumL m)) m) := by show _ = _; rw [HF.out]; rfl
  clear hff HF hk hh hT hlen
  generalize bodyM m = BM at *
  generalize intsL [m.kind, (sumL m : Nat)] = L at *
  generalize fromL (Lib.ctz 64 (sumL m)) m = R at *
  generalize sumL m = S at *
  generalize Lib.ctz 64 S = C at *
  generalize L ++ R = Z at *
  go_enter Tryd.func33, Tryd.ntmps33
  go_wp2_with (first | (refine wpList_load_row rfl 27 _ rfl w.heap.size rfl 27 _ (0, 0) _ X0.out.box Tryd.underlying27 rfl size27 ?_) | (go_at_call 47; refine H47.out.mono ?_; rintro e w1 ⟨rfl, hb1⟩; have X1 := hid (X0.out.next hb1); have c0 := cell_blk X1.out.box 0 (.int .i64 m.kind) rfl; have hw1 := X1.out.lt; clear hb1))
  refine (H48.out w1 (by omega)).mono ?_
  rintro e w2 ⟨v2, rfl, hrow2, hb2, hg2⟩
  have hb2w := hid (X1.out.below.trans hb2)
  have hx2 : w2.heap[w.heap.size]? = some (.cells #[.int .i64 m.kind, .int .i64 m.n0, .int .i64 m.n1, .int .i64 m.n2, .int .i64 m.n3, .int .i64 m.n4, .int .i64 m.n5, .int .i64 m.n6, .int .i64 m.n7, .int .i64 m.n8, .int .i64 m.n9, .int .i64 m.n10, .int .i64 m.n11, .int .i64 m.n12, .int .i64 m.n13, .int .i64 m.err, .string (strOf m.name), .string (strOf m.text), .slice ba m.bats.length bc, .slice ea m.ents.length ec, .slice ia m.ints.length ic] 27) := by
    obtain ⟨g1, _, _⟩ := hg2.block X1.out.lt (by intro e; cases e)
    exact g1.trans X1.out.box
  obtain ⟨va, vn, vc, hv2⟩ : ∃ va vn vc, v2 = .slice va vn vc := by
    obtain ⟨a, c, e⟩ := hrow2.shape
    exact ⟨a, _, c, e⟩
  have hoff0 : v2.ownBlock ≠ some w.heap.size := (hg2.block X1.out.lt (by intro e; cases e)).2.1
  subst hv2
  have HO := hid hoff0
  have HX2 := hid hx2
  have HR2 := hid hrow2
  clear hb2 hg2 hx2 hrow2 hoff0 c0 H47 H48 X0 X1
  go_wp2
  have hoff : (Value.slice va vn vc).ownBlock ≠ some w.heap.size := HO.out
  refine wp_region_held_drew (S := fun W => W.heap[w.heap.size]? = some (.cells #[.int .i64 m.kind, .int .i64 m.n0, .int .i64 m.n1, .int .i64 m.n2, .int .i64 m.n3, .int .i64 m.n4, .int .i64 m.n5, .int .i64 m.n6, .int .i64 m.n7, .int .i64 m.n8, .int .i64 m.n9, .int .i64 m.n10, .int .i64 m.n11, .int .i64 m.n12, .int .i64 m.n13, .int .i64 m.err, .string (strOf m.name), .string (strOf m.text), .slice ba m.bats.length bc, .slice ea m.ents.length ec, .slice ia m.ints.length ic] 27)) (by kernel_rfl) HX2.out (fun hHeld => ?_)
  refine wpAnyH_take (i := 1) (v := .agg #[.int .i64 m.kind, .int .i64 m.n0, .int .i64 m.n1, .int .i64 m.n2, .int .i64 m.n3, .int .i64 m.n4, .int .i64 m.n5, .int .i64 m.n6, .int .i64 m.n7, .int .i64 m.n8, .int .i64 m.n9, .int .i64 m.n10, .int .i64 m.n11, .int .i64 m.n12, .int .i64 m.n13, .int .i64 m.err, .string (strOf m.name), .string (strOf m.text), .slice ba m.bats.length bc, .slice ea m.ents.length ec, .slice ia m.ints.length ic]) rfl (by kernel_rfl) (by kernel_rfl) (by kernel_rfl) (fun _ _ _ h => h) (yieldsIf_load27 (by rfl) _ rfl w.heap.size rfl #[.int .i64 m.kind, .int .i64 m.n0, .int .i64 m.n1, .int .i64 m.n2, .int .i64 m.n3, .int .i64 m.n4, .int .i64 m.n5, .int .i64 m.n6, .int .i64 m.n7, .int .i64 m.n8, .int .i64 m.n9, .int .i64 m.n10, .int .i64 m.n11, .int .i64 m.n12, .int .i64 m.n13, .int .i64 m.err, .string (strOf m.name), .string (strOf m.text), .slice ba m.bats.length bc, .slice ea m.ents.length ec, .slice ia m.ints.length ic] (fun _ h => h) rfl) hHeld ?_
  simp only [Act.put, List.setIfInBounds_toArray, List.set_cons_zero, List.set_cons_succ]
  refine wpAnyH_take (i := 0) (v := .slice va vn vc) rfl (by kernel_rfl) (by kernel_rfl) (by kernel_rfl) (fun _ _ _ h => h) (Or.inl ⟨by rfl, fun W hW => by go_simp⟩) hHeld ?_
  simp only [Act.put, List.setIfInBounds_toArray, List.set_cons_zero, List.set_cons_succ]
  refine wpAnyH_take (i := 2) (v := .int .i64 (S : Int)) rfl (by kernel_rfl) (by kernel_rfl) (by kernel_rfl) (fun _ _ _ h => h) (Or.inl ⟨by rfl, fun W hW => by go_simp⟩) hHeld ?_
  simp only [Act.put, List.setIfInBounds_toArray, List.set_cons_zero, List.set_cons_succ]
  have hwr : IntKind.u64.wrap (S : Int) = (S : Int) := by rw [IntKind.wrap_u64]; omega
  refine wpAnyH_take (i := 3) (v := .int .u64 (S : Int)) rfl (by kernel_rfl) (by kernel_rfl) (by kernel_rfl) (fun _ _ _ h => h) (Or.inl ⟨by rfl, fun W hW => by go_simp⟩) hHeld ?_
  simp only [Act.put, List.setIfInBounds_toArray, List.set_cons_zero, List.set_cons_succ]
  refine wpAnyH_ready (rs := [4]) (by kernel_rfl) (by simp) ?_
  refine AllReadyH.cons rfl (fun K hK => ?_) AllReadyH.nil
  refine step_call1 rfl 15 rfl (.int .u64 (S : Int)) (by simp) (H50.out _ hb2w.out.drew) ?_
  rintro e w3 ⟨rfl, rfl⟩
  refine ⟨_, rfl, ?_⟩
  refine hK.out _ _ hHeld (fun _ => ?_)
  simp only [Act.put, List.setIfInBounds_toArray, List.set_cons_zero, List.set_cons_succ]
  clear hK K
  refine wpAnyH_ready (rs := [5]) (by kernel_rfl) (by simp) ?_
  refine AllReadyH.cons rfl (fun K hK => ?_) AllReadyH.nil
  refine step_call3 rfl 12 13 16 rfl (.slice va vn vc) (.agg #[.int .i64 m.kind, .int .i64 m.n0, .int .i64 m.n1, .int .i64 m.n2, .int .i64 m.n3, .int .i64 m.n4, .int .i64 m.n5, .int .i64 m.n6, .int .i64 m.n7, .int .i64 m.n8, .int .i64 m.n9, .int .i64 m.n10, .int .i64 m.n11, .int .i64 m.n12, .int .i64 m.n13, .int .i64 m.err, .string (strOf m.name), .string (strOf m.text), .slice ba m.bats.length bc, .slice ea m.ents.length ec, .slice ia m.ints.length ic]) (.int .i64 (C : Int)) (by simp) (by simp) (by simp) (H49.out _ _ hb2w.out.drew HR2.out.drew) ?_
  rintro e w4 ⟨v4, rfl, hrow4, hb4, hg4⟩
  refine ⟨_, rfl, ?_⟩
  refine hK.out _ _ ((hg4.block (lt_of_box hHeld) hoff).1.trans hHeld) (fun hHeld4 => ?_)
  clear hK K
  have hcv := hrow4.conv
  obtain ⟨a4, cap4, hv4⟩ := hrow4.shape
  rw [hv4] at hcv ⊢
  simp only [Act.put, List.setIfInBounds_toArray, List.set_cons_zero, List.set_cons_succ]
  refine wpAnyH_ready (rs := [6]) (by kernel_rfl) (by simp) ?_
  refine AllReadyH.cons rfl (fun K hK => ?_) AllReadyH.nil
  go_simp
  refine hK.out _ _ hHeld4 (fun _ => ?_)
  clear hK K
  try simp only [Act.put, List.setIfInBounds_toArray, List.set_cons_zero, List.set_cons_succ]
  refine wpAnyH_ready (rs := [7]) (by kernel_rfl) (by simp) ?_
  refine AllReadyH.cons rfl (fun K hK => ?_) AllReadyH.nil
  go_simp
  refine hK.out _ _ hHeld4 (fun _ => ?_)
  clear hK K
  refine wpAnyH_done (by kernel_rfl) ?_ _
  go_wp2
  go_ret
  exact ⟨by rw [HB.out]; rfl, hb4⟩
end Go.Proofs.YtocdlaoklagdoaaDoor
