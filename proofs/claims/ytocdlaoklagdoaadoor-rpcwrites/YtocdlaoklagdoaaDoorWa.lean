/- RpcAnswers: the walk. -/
import Derived.Test.YtocdlaoklagdoaaDoorSh
namespace Go.Proofs.YtocdlaoklagdoaaDoor
open Go.RowKit Go.Maps
set_option linter.unusedSimpArgs false
set_option linter.unusedVariables false
set_option maxRecDepth 100000
theorem step_call18 {ops : Array Oper} {o : Oper} {a : Act} {w : World} {K : Act → World → Prop} {Q : Exit → Act → World → Prop} {E : Prop} {R : Ending → World → Prop} (hg : o.guard = none) (x y : Nat)
    (ho : o.op = .call { callee := .value (.func 18), args := #[.tmp x, .tmp y], argTypes := #[27, 22] }) (v1 v2 : Value) (hx : a.tmps[x]?.getD undef = v1) (hy : a.tmps[y]?.getD undef = v2) (hc : Calls Tryd.prog 18 #[v1, v2] w R) (hR : ∀ e w', R e w' → ∃ u, e = .returned u ∧ K (a.put o.dst u) w') :
    if Region.wanted o (yielded ops a.tmps) = true then Oper.wp Tryd.prog o a w K Q else E := by
  have hw : Region.wanted o (yielded ops a.tmps) = true := by simp [Region.wanted, hg]
  rw [if_pos hw]
  unfold Oper.wp
  simp only [go_sem, ho, hx, hy]
  simp [go_sem, hx, hy]
  refine hc.mono ?_
  rintro e w' hr
  obtain ⟨u, rfl, hK⟩ := hR e w' hr
  exact hK
theorem step_call19 {ops : Array Oper} {o : Oper} {a : Act} {w : World} {K : Act → World → Prop} {Q : Exit → Act → World → Prop} {E : Prop} {R : Ending → World → Prop} (hg : o.guard = none) (x y : Nat)
    (ho : o.op = .call { callee := .value (.func 19), args := #[.tmp x, .tmp y], argTypes := #[27, 22] }) (v1 v2 : Value) (hx : a.tmps[x]?.getD undef = v1) (hy : a.tmps[y]?.getD undef = v2) (hc : Calls Tryd.prog 19 #[v1, v2] w R) (hR : ∀ e w', R e w' → ∃ u, e = .returned u ∧ K (a.put o.dst u) w') :
    if Region.wanted o (yielded ops a.tmps) = true then Oper.wp Tryd.prog o a w K Q else E := by
  have hw : Region.wanted o (yielded ops a.tmps) = true := by simp [Region.wanted, hg]
  rw [if_pos hw]
  unfold Oper.wp
  simp only [go_sem, ho, hx, hy]
  simp [go_sem, hx, hy]
  refine hc.mono ?_
  rintro e w' hr
  obtain ⟨u, rfl, hK⟩ := hR e w' hr
  exact hK
theorem step_call17 {ops : Array Oper} {o : Oper} {a : Act} {w : World} {K : Act → World → Prop} {Q : Exit → Act → World → Prop} {E : Prop} {R : Ending → World → Prop} (hg : o.guard = none) (x y : Nat)
    (ho : o.op = .call { callee := .value (.func 17), args := #[.tmp x, .tmp y], argTypes := #[27, 27] }) (v1 v2 : Value) (hx : a.tmps[x]?.getD undef = v1) (hy : a.tmps[y]?.getD undef = v2) (hc : Calls Tryd.prog 17 #[v1, v2] w R) (hR : ∀ e w', R e w' → ∃ u, e = .returned u ∧ K (a.put o.dst u) w') :
    if Region.wanted o (yielded ops a.tmps) = true then Oper.wp Tryd.prog o a w K Q else E := by
  have hw : Region.wanted o (yielded ops a.tmps) = true := by simp [Region.wanted, hg]
  rw [if_pos hw]
  unfold Oper.wp
  simp only [go_sem, ho, hx, hy]
  simp [go_sem, hx, hy]
  refine hc.mono ?_
  rintro e w' hr
  obtain ⟨u, rfl, hK⟩ := hR e w' hr
  exact hK

theorem same_ans (m : Msg) (er : Int) (W : World) : Calls Tryd.prog 17 #[.agg (ansV m er), .agg (ansV m er)] W fun x w' => x = .returned (.bool true) ∧ Below W.heap.size W w' := by
  unfold ansV
  split
  · exact same_none 0 0 0 0 0 0 0 0 0 0 0 0 0 0 0 0 ⟨#[]⟩ ⟨#[]⟩ W
  · exact same_none (m.kind + 1) m.n1 m.n0 m.n2 m.n3 0 0 0 0 0 0 0 0 0 0 er ⟨#[]⟩ ⟨#[]⟩ W

set_option maxHeartbeats 3200000 in
theorem answers_walk {w : World} (m : Msg) (ba : Option Addr) (bc : Nat) (ea : Option Addr) (ec : Nat) (ia : Option Addr) (ic : Nat) (er : Int) (hk : I64 m.kind) (hT : Tab w) :
    Calls Tryd.prog 5 #[.agg #[.int .i64 m.kind, .int .i64 m.n0, .int .i64 m.n1, .int .i64 m.n2, .int .i64 m.n3, .int .i64 m.n4, .int .i64 m.n5, .int .i64 m.n6, .int .i64 m.n7, .int .i64 m.n8, .int .i64 m.n9, .int .i64 m.n10, .int .i64 m.n11, .int .i64 m.n12, .int .i64 m.n13, .int .i64 m.err, .string (strOf m.name), .string (strOf m.text), .slice ba m.bats.length bc, .slice ea m.ents.length ec, .slice ia m.ints.length ic], .int .i64 er] w fun e w' => e = .returned (.bool true) ∧ Below w.heap.size w w' := by
  have X0 := hid (Boxed.laid w (.cells #[.int .i64 m.kind, .int .i64 m.n0, .int .i64 m.n1, .int .i64 m.n2, .int .i64 m.n3, .int .i64 m.n4, .int .i64 m.n5, .int .i64 m.n6, .int .i64 m.n7, .int .i64 m.n8, .int .i64 m.n9, .int .i64 m.n10, .int .i64 m.n11, .int .i64 m.n12, .int .i64 m.n13, .int .i64 m.err, .string (strOf m.name), .string (strOf m.text), .slice ba m.bats.length bc, .slice ea m.ents.length ec, .slice ia m.ints.length ic] 27))
  have H8 := hid (shown_any (hT.under X0.out.below hT.2))
  have H18 := hid (fun W => answer_any m ba bc ea ec ia ic er hk W)
  have H19 := hid (fun W => ranswer_any m ba bc ea ec ia ic er hk W)
  have H17 := hid (fun W => same_ans m er W)
  generalize ansV m er = V at *
  clear hT hk
  go_enter Tryd.func5, Tryd.ntmps5
  go_wp2_with (go_at_call 8; refine H8.out.mono ?_; rintro e w1 ⟨rfl, hb1⟩)
  have X1 := hid (X0.out.next hb1)
  have BX := hid X1.out.box
  clear hb1 X0 H8
  go_wp2
  refine wp_region_held_drew (S := fun W => W.heap[w.heap.size]? = some (.cells #[.int .i64 m.kind, .int .i64 m.n0, .int .i64 m.n1, .int .i64 m.n2, .int .i64 m.n3, .int .i64 m.n4, .int .i64 m.n5, .int .i64 m.n6, .int .i64 m.n7, .int .i64 m.n8, .int .i64 m.n9, .int .i64 m.n10, .int .i64 m.n11, .int .i64 m.n12, .int .i64 m.n13, .int .i64 m.err, .string (strOf m.name), .string (strOf m.text), .slice ba m.bats.length bc, .slice ea m.ents.length ec, .slice ia m.ints.length ic] 27)) (by kernel_rfl) BX.out (fun hHeld => ?_)
  refine wpAnyH_take (i := 0) (v := .agg #[.int .i64 m.kind, .int .i64 m.n0, .int .i64 m.n1, .int .i64 m.n2, .int .i64 m.n3, .int .i64 m.n4, .int .i64 m.n5, .int .i64 m.n6, .int .i64 m.n7, .int .i64 m.n8, .int .i64 m.n9, .int .i64 m.n10, .int .i64 m.n11, .int .i64 m.n12, .int .i64 m.n13, .int .i64 m.err, .string (strOf m.name), .string (strOf m.text), .slice ba m.bats.length bc, .slice ea m.ents.length ec, .slice ia m.ints.length ic]) rfl (by kernel_rfl) (by kernel_rfl) (by kernel_rfl) (fun _ _ _ h => h) (yieldsIf_load27 (by rfl) _ rfl w.heap.size rfl #[.int .i64 m.kind, .int .i64 m.n0, .int .i64 m.n1, .int .i64 m.n2, .int .i64 m.n3, .int .i64 m.n4, .int .i64 m.n5, .int .i64 m.n6, .int .i64 m.n7, .int .i64 m.n8, .int .i64 m.n9, .int .i64 m.n10, .int .i64 m.n11, .int .i64 m.n12, .int .i64 m.n13, .int .i64 m.err, .string (strOf m.name), .string (strOf m.text), .slice ba m.bats.length bc, .slice ea m.ents.length ec, .slice ia m.ints.length ic] (fun _ h => h) rfl) hHeld ?_
  simp only [Act.put, List.setIfInBounds_toArray, List.set_cons_zero, List.set_cons_succ]
  refine wpAnyH_take (i := 1) (v := .int .i64 er) rfl (by kernel_rfl) (by kernel_rfl) (by kernel_rfl) (fun _ _ _ h => h) (Or.inl ⟨by rfl, fun W hW => by go_simp⟩) hHeld ?_
  simp only [Act.put, List.setIfInBounds_toArray, List.set_cons_zero, List.set_cons_succ]
  refine wpAnyH_take (i := 3) (v := .agg #[.int .i64 m.kind, .int .i64 m.n0, .int .i64 m.n1, .int .i64 m.n2, .int .i64 m.n3, .int .i64 m.n4, .int .i64 m.n5, .int .i64 m.n6, .int .i64 m.n7, .int .i64 m.n8, .int .i64 m.n9, .int .i64 m.n10, .int .i64 m.n11, .int .i64 m.n12, .int .i64 m.n13, .int .i64 m.err, .string (strOf m.name), .string (strOf m.text), .slice ba m.bats.length bc, .slice ea m.ents.length ec, .slice ia m.ints.length ic]) rfl (by kernel_rfl) (by kernel_rfl) (by kernel_rfl) (fun _ _ _ h => h) (yieldsIf_load27 (by rfl) _ rfl w.heap.size rfl #[.int .i64 m.kind, .int .i64 m.n0, .int .i64 m.n1, .int .i64 m.n2, .int .i64 m.n3, .int .i64 m.n4, .int .i64 m.n5, .int .i64 m.n6, .int .i64 m.n7, .int .i64 m.n8, .int .i64 m.n9, .int .i64 m.n10, .int .i64 m.n11, .int .i64 m.n12, .int .i64 m.n13, .int .i64 m.err, .string (strOf m.name), .string (strOf m.text), .slice ba m.bats.length bc, .slice ea m.ents.length ec, .slice ia m.ints.length ic] (fun _ h => h) rfl) hHeld ?_
  simp only [Act.put, List.setIfInBounds_toArray, List.set_cons_zero, List.set_cons_succ]
  refine wpAnyH_take (i := 4) (v := .int .i64 er) rfl (by kernel_rfl) (by kernel_rfl) (by kernel_rfl) (fun _ _ _ h => h) (Or.inl ⟨by rfl, fun W hW => by go_simp⟩) hHeld ?_
  simp only [Act.put, List.setIfInBounds_toArray, List.set_cons_zero, List.set_cons_succ]
  refine wpAnyH_ready (rs := [2]) (by kernel_rfl) (by simp) ?_
  refine AllReadyH.cons rfl (fun K hK => ?_) AllReadyH.nil
  refine step_call18 rfl 8 9 rfl (.agg #[.int .i64 m.kind, .int .i64 m.n0, .int .i64 m.n1, .int .i64 m.n2, .int .i64 m.n3, .int .i64 m.n4, .int .i64 m.n5, .int .i64 m.n6, .int .i64 m.n7, .int .i64 m.n8, .int .i64 m.n9, .int .i64 m.n10, .int .i64 m.n11, .int .i64 m.n12, .int .i64 m.n13, .int .i64 m.err, .string (strOf m.name), .string (strOf m.text), .slice ba m.bats.length bc, .slice ea m.ents.length ec, .slice ia m.ints.length ic]) (.int .i64 er) (by simp) (by simp) (H18.out _) ?_
  rintro e w2 ⟨rfl, hbw2⟩
  refine ⟨_, rfl, ?_⟩
  have hH2 : w2.heap[w.heap.size]? = some (.cells #[.int .i64 m.kind, .int .i64 m.n0, .int .i64 m.n1, .int .i64 m.n2, .int .i64 m.n3, .int .i64 m.n4, .int .i64 m.n5, .int .i64 m.n6, .int .i64 m.n7, .int .i64 m.n8, .int .i64 m.n9, .int .i64 m.n10, .int .i64 m.n11, .int .i64 m.n12, .int .i64 m.n13, .int .i64 m.err, .string (strOf m.name), .string (strOf m.text), .slice ba m.bats.length bc, .slice ea m.ents.length ec, .slice ia m.ints.length ic] 27) := (hbw2.block _ (lt_of_box hHeld)).trans hHeld
  refine hK.out _ _ hH2 (fun _ => ?_)
  clear hK K
  simp only [Act.put, List.setIfInBounds_toArray, List.set_cons_zero, List.set_cons_succ]
  refine wpAnyH_ready (rs := [5]) (by kernel_rfl) (by simp) ?_
  refine AllReadyH.cons rfl (fun K hK => ?_) AllReadyH.nil
  refine step_call19 rfl 11 12 rfl (.agg #[.int .i64 m.kind, .int .i64 m.n0, .int .i64 m.n1, .int .i64 m.n2, .int .i64 m.n3, .int .i64 m.n4, .int .i64 m.n5, .int .i64 m.n6, .int .i64 m.n7, .int .i64 m.n8, .int .i64 m.n9, .int .i64 m.n10, .int .i64 m.n11, .int .i64 m.n12, .int .i64 m.n13, .int .i64 m.err, .string (strOf m.name), .string (strOf m.text), .slice ba m.bats.length bc, .slice ea m.ents.length ec, .slice ia m.ints.length ic]) (.int .i64 er) (by simp) (by simp) (H19.out _) ?_
  rintro e w3 ⟨rfl, hbw3⟩
  refine ⟨_, rfl, ?_⟩
  have hH3 : w3.heap[w.heap.size]? = some (.cells #[.int .i64 m.kind, .int .i64 m.n0, .int .i64 m.n1, .int .i64 m.n2, .int .i64 m.n3, .int .i64 m.n4, .int .i64 m.n5, .int .i64 m.n6, .int .i64 m.n7, .int .i64 m.n8, .int .i64 m.n9, .int .i64 m.n10, .int .i64 m.n11, .int .i64 m.n12, .int .i64 m.n13, .int .i64 m.err, .string (strOf m.name), .string (strOf m.text), .slice ba m.bats.length bc, .slice ea m.ents.length ec, .slice ia m.ints.length ic] 27) := (hbw3.block _ (lt_of_box hH2)).trans hH2
  refine hK.out _ _ hH3 (fun _ => ?_)
  clear hK K
  simp only [Act.put, List.setIfInBounds_toArray, List.set_cons_zero, List.set_cons_succ]
  refine wpAnyH_ready (rs := [6]) (by kernel_rfl) (by simp) ?_
  refine AllReadyH.cons rfl (fun K hK => ?_) AllReadyH.nil
  refine step_call17 rfl 10 13 rfl (.agg V) (.agg V) (by simp) (by simp) (H17.out _) ?_
  rintro e w4 ⟨rfl, hbw4⟩
  refine ⟨_, rfl, ?_⟩
  have hH4 : w4.heap[w.heap.size]? = some (.cells #[.int .i64 m.kind, .int .i64 m.n0, .int .i64 m.n1, .int .i64 m.n2, .int .i64 m.n3, .int .i64 m.n4, .int .i64 m.n5, .int .i64 m.n6, .int .i64 m.n7, .int .i64 m.n8, .int .i64 m.n9, .int .i64 m.n10, .int .i64 m.n11, .int .i64 m.n12, .int .i64 m.n13, .int .i64 m.err, .string (strOf m.name), .string (strOf m.text), .slice ba m.bats.length bc, .slice ea m.ents.length ec, .slice ia m.ints.length ic] 27) := (hbw4.block _ (lt_of_box hH3)).trans hH3
  refine hK.out _ _ hH4 (fun _ => ?_)
  clear hK K
  simp only [Act.put, List.setIfInBounds_toArray, List.set_cons_zero, List.set_cons_succ]
  refine wpAnyH_ready (rs := [7]) (by kernel_rfl) (by simp) ?_
  refine AllReadyH.cons rfl (fun K hK => ?_) AllReadyH.nil
  go_simp
  refine hK.out _ _ hH4 (fun _ => ?_)
  clear hK K
  refine wpAnyH_done (by kernel_rfl) ?_ _
  have hd := X1.out.below.drew
  have BZ := hid (((hd.trans (hbw2.mono hd.size)).trans (hbw3.mono (Nat.le_trans hd.size hbw2.size))).trans (hbw4.mono (Nat.le_trans (Nat.le_trans hd.size hbw2.size) hbw3.size)))
  clear hd hbw2 hbw3 hbw4 hH2 hH3 hH4 hHeld
  go_wp2
  go_ret
  exact ⟨rfl, BZ.out⟩
end Go.Proofs.YtocdlaoklagdoaaDoor
