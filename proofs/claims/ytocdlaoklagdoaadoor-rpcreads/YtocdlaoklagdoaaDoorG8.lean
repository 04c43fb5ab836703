/- RpcAnswers: the walk. -/
import Derived.Test.YtocdlaoklagdoaaDoorSh
import Derived.ProofKit
import Derived.OpenShut
import Derived.ShutString
import Derived.ChangeOld
import Derived.SliceStrings
import Derived.Deep.Slices
import Derived.Lib.SmallJoins
import Derived.LaidMore
import Derived.Lib.LaidTab
import Derived.Stop.Joined
import Derived.Stop.LaidErr
namespace Go.Proofs.YtocdlaoklagdoaaDoor
open Go.RowKit Go.Maps
set_option linter.unusedSimpArgs false
set_option linter.unusedVariables false
set_option maxRecDepth 100000
theorem step_call18 {ops : Array Oper} {o : Oper} {a : Act} {w : World} {K : Act → World → Prop} {Q : Exit → Act → World → Prop} {E : Prop} {R : Ending → World → Prop} (hg : o.guard = none) (x y : Nat)
    (ho : o.op = .call { callee := .value (.func 18), args := #[.tmp x, .tmp y], argTypes := #[27, 22] }) (v1 v2 : Value) (hx : a.tmps[x]?.getD undef = v1) (hy : a.tmps[y]?.getD undef = v2) (hc : Calls Tryd.prog 18 #[v1, v2] w R) (hR : ∀ e w', R e w' → ∃ u, e = .returned u ∧ K (a.put o.dst u) w') :
    if Region.wanted o (yielded ops a.tmps) = true then Oper.wp Tryd.prog o a w K Q else E := by
  have hw : Region.wanted o (yielded ops a.tmps) = true := by simp [Region.wanted, hg]
  rw [if_pos hw]
  unfold Oper.wp
  simp only [go_sem, ho, hx, hy]
  simp [go_sem, hx, hy]
  refine hc.mono ?_
  rintro e w' hr
  obtain ⟨u, rfl, hK⟩ := hR e w' hr
  exact hK
theorem step_call19 {ops : Array Oper} {o : Oper} {a : Act} {w : World} {K : Act → World → Prop} {Q : Exit → Act → World → Prop} {E : Prop} {R : Ending → World → Prop} (hg : o.guard = none) (x y : Nat)
    (ho : o.op = .call { callee := .value (.func 19), args := #[.tmp x, .tmp y], argTypes := #[27, 22] }) (v1 v2 : Value) (hx : a.tmps[x]?.getD undef = v1) (hy : a.tmps[y]?.getD undef = v2) (hc : Calls Tryd.prog 19 #[v1, v2] w R) (hR : ∀ e w', R e w' → ∃ u, e = .returned u ∧ K (a.put o.dst u) w') :
    if Region.wanted o (yielded ops a.tmps) = true then Oper.wp Tryd.prog o a w K Q else E := by
  have hw : Region.wanted o (yielded ops a.tmps) = true := by simp [Region.wanted, hg]
  rw [if_pos hw]
  unfold Oper.wp
  simp only [go_sem, ho, hx, hy]
  simp [go_sem, hx, hy]
  refine hc.mono ?_
  rintro e w' hr
  obtain ⟨u, rfl, hK⟩ := hR e w' hr
  exact hK
theorem step_call17 {ops : Array Oper} {o : Oper} {a : Act} {w : World} {K : Act → World → Prop} {Q : Exit → Act → World → Prop} {E : Prop} {R : Ending → World → Prop} (hg : o.guard = none) (x y : Nat)
    (ho : o.op = .call { callee := .value (.func 17), args := #[.tmp x, .tmp y], argTypes := #[27, 27] }) (v1 v2 : Value) (hx : a.tmps[x]?.getD undef = v1) (hy : a.tmps[y]?.getD undef = v2) (hc : Calls Tryd.prog 17 #[v1, v2] w R) (hR : ∀ e w', R e w' → ∃ u, e = .returned u ∧ K (a.put o.dst u) w') :
    if Region.wanted o (yielded ops a.tmps) = true then Oper.wp Tryd.prog o a w K Q else E := by
  have hw : Region.wanted o (yielded ops a.tmps) = true := by simp [Region.wanted, hg]
  rw [if_pos hw]
  unfold Oper.wp
  simp only [go_sem, ho, hx, hy]
  simp [go_sem, hx, hy]
  refine hc.mono ?_
  rintro e w' hr
  obtain ⟨u, rfl, hK⟩ := hR e w' hr
  exact hK

theorem same_ans (m : Msg) (er : Int) (W : World) : Calls Tryd.prog 17 #[.agg (ansV m er), .agg (ansV m er)] W fun x w' => x = .returned (.bool true) ∧ Below W.heap.size W w' := by
  unfold ansV
  split
  · exact same_none 0 0 0 0 0 0 0 0 0 0 0 0 0 0 0 0 ⟨#[]⟩ ⟨#[]⟩ W
  · exact same_none (m.kind + 1) m.n1 m.n0 m.n2 m.n3 0 0 0 0 0 0 0 0 0 0 er ⟨#[]⟩ ⟨#[]⟩ W

set_option maxHeartbeats 3200000 in
theorem answers_walk {w : World} (m : Msg) (ba : Option Addr) (bc : Nat) (ea : Option Addr) (ec : Nat) (ia : Option Addr) (ic : Nat) (er : Int) (hk : I64 m.kind) (hT : Tab w) :
    Calls Tryd.prog 5 #[.agg #[.int .i64 m.kind, .int .i64 m.n0, .int .i64 m.n1, .int .i64 m.n2, .int .i64 m.n3, .int .i64 m.n4, .int .i64 m.n5, .int .i64 m.n6, .int .i64 m.n7, .int .i64 m.n8, .int .i64 m.n9, .int .i64 m.n10, .int .i64 m.n11, .int .i64 m.n12, .int .i64 m.n13, .int .i64 m.err, .string (strOf m.name), .string (strOf m.text), .slice ba m.bats.length bc, .slice ea m.ents.length ec, .slice ia m.ints.length ic], .int .i64 er] w fun e w' => e = .returned (.bool true) ∧ Below w.heap.size w w' := by
  have X0 := hid (Boxed.laid w (.cells #[.int .i64 m.kind, .int .i64 m.n0, .int .i64 m.n1, .int .i64 m.n2, .int .i64 m.n3, .int .i64 m.n4, .int .i64 m.n5, .int .i64 m.n6, .int .i64 m.n7, .int .i64 m.n8, .int .i64 m.n9, .int .i64 m.n10, .int .i64 m.n11, .int .i64 m.n12, .int .i64 m.n13, .int .i64 m.err, .string (strOf m.name), .string (strOf m.text), .slice ba m.bats.length bc, .slice ea m.ents.length ec, .slice ia m.ints.length ic] 27))
  have H8 := hid (shown_any (hT.under X0.out.below hT.2))
  have H18 := hid (fun W => answer_any m ba bc ea ec ia ic er hk W)
  have H19 := hid (fun W => ranswer_any m ba bc ea ec ia ic er hk W)
  have H17 := hid (fun W => same_ans m er W)
  generalize ansV m er = V at *
  clear hT hk
  go_enter Tryd.func5, Tryd.ntmps5
  go_wp2_with (go_at_call 8; refine H8.out.mono ?_; rintro e w1 ⟨rfl, hb1⟩)
  have X1 := hid (X0.out.next hb1)
  have BX := hid X1.out.box
  clear hb1 X0 H8
  go_wp2
  refine wp_region_held_drew (S := fun W => W.heap[w.heap.size]? = some (.cells #[.int .i64 m.kind, .int .i64 m.n0, .int .i64 m.n1, .int .i64 m.n2, .int .i64 m.n3, .int .i64 m.n4, .int .i64 m.n5, .int .i64 m.n6, .int .i64 m.n7, .int .i64 m.n8, .int .i64 m.n9, .int .i64 m.n10, .int .i64 m.n11, .int .i64 m.n12, .int .i64 m.n13, .int .i64 m.err, .string (strOf m.name), .string (strOf m.text), .slice ba m.bats.length bc, .slice ea m.ents.length ec, .slice ia m.ints.length ic] 27)) (by kernel_rfl) BX.out (fun hHeld => ?_)
  refine wpAnyH_take (i := 0) (v := .agg #[.int .i64 m.kind, .int .i64 m.n0, .int .i64 m.n1, .int .i64 m.n2, .int .i64 m.n3, .int .i64 m.n4, .int .i64 m.n5, .int .i64 m.n6, .int .i64 m.n7, .int .i64 m.n8, .int .i64 m.n9, .int .i64 m.n10, .int .i64 m.n11, .int .i64 m.n12, .int .i64 m.n13, .int .i64 m.err, .string (strOf m.name), .string (strOf m.text), .slice ba m.bats.length bc, .slice ea m.ents.length ec, .slice ia m.ints.length ic]) rfl (by kernel_rfl) (by kernel_rfl) (by kernel_rfl) (fun _ _ _ h => h) (yieldsIf_load27 (by rfl) _ rfl w.heap.size rfl #[.int .i64 m.kind, .int .i64 m.n0, .int .i64 m.n1, .int .i64 m.n2, .int .i64 m.n3, .int .i64 m.n4, .int .i64 m.n5, .int .i64 m.n6, .int .i64 m.n7, .int .i64 m.n8, .int .i64 m.n9, .int .i64 m.n10, .int .i64 m.n11, .int .i64 m.n12, .int .i64 m.n13, .int .i64 m.err, .string (strOf m.name), .string (strOf m.text), .slice ba m.bats.length bc, .slice ea m.ents.length ec, .slice ia m.ints.length ic] (fun _ h => h) rfl) hHeld ?_
  simp only [Act.put, List.setIfInBounds_toArray, List.set_cons_zero, List.set_cons_succ]
  refine wpAnyH_take (i := 1) (v := .int .i64 er) rfl (by kernel_rfl) (by kernel_rfl) (by kernel_rfl) (fun _ _ _ h => h) (Or.inl ⟨by rfl, fun W hW => by go_simp⟩) hHeld ?_
  simp only [Act.put, List.setIfInBounds_toArray, List.set_cons_zero, List.set_cons_succ]
  refine wpAnyH_take (i := 3) (v := .agg #[.int .i64 m.kind, .int .i64 m.n0, .int .i64 m.n1, .int .i64 m.n2, .int .i64 m.n3, .int .i64 m.n4, .int .i64 m.n5, .int .i64 m.n6, .int .i64 m.n7, .int .i64 m.n8, .int .i64 m.n9, .int .i64 m.n10, .int .i64 m.n11, .int .i64 m.n12, .int .i64 m.n13, .int .i64 m.err, .string (strOf m.name), .string (strOf m.text), .slice ba m.bats.length bc, .slice ea m.ents.length ec, .slice ia m.ints.length ic]) rfl (by kernel_rfl) (by kernel_rfl) (by kernel_rfl) (fun _ _ _ h => h) (yieldsIf_load27 (by rfl) _ rfl w.heap.size rfl #[.int .i64 m.kind, .int .i64 m.n0, .int .i64 m.n1, .int .i64 m.n2, .int .i64 m.n3, .int .i64 m.n4, .int .i64 m.n5, .int .i64 m.n6, .int .i64 m.n7, .int .i64 m.n8, .int .i64 m.n9, .int .i64 m.n10, .int .i64 m.n11, .int .i64 m.n12, .int .i64 m.n13, .int .i64 m.err, .string (strOf m.name), .string (strOf m.text), .slice ba m.bats.length bc, .slice ea m.ents.length ec, .slice ia m.ints.length ic] (fun _ h => h) rfl) hHeld ?_
  simp only [Act.put, List.setIfInBounds_toArray, List.set_cons_zero, List.set_cons_succ]
  refine wpAnyH_take (i := 4) (v := .int .i64 er) rfl (by kernel_rfl) (by kernel_rfl) (by kernel_rfl) (fun _ _ _ h => h) (Or.inl ⟨by rfl, fun W hW => by go_simp⟩) hHeld ?_
  simp only [Act.put, List.setIfInBounds_toArray, List.set_cons_zero, List.set_cons_succ]
  refine wpAnyH_ready (rs := [2]) (by kernel_rfl) (by simp) ?_
  refine AllReadyH.cons rfl (fun K hK => ?_) AllReadyH.nil
  refine step_call18 rfl 8 9 rfl (.agg #[.int .i64 m.kind, .int .i64 m.n0, .int .i64 m.n1, .int .i64 m.n2, .int .i64 m.n3, .int .i64 m.n4, .int .i64 m.n5, .int .i64 m.n6, .int .i64 m.n7, .int .i64 m.n8, .int .i64 m.n9, .int .i64 m.n10, .int .i64 m.n11, .int .i64 m.n12, .int .i64 m.n13, .int .i64 m.err, .string (strOf m.name), .string (strOf m.text), .slice ba m.bats.length bc, .slice ea m.ents.length ec, .slice ia m.ints.length ic]) (.int .i64 er) (by simp) (by simp) (H18.out _) ?_
  rintro e w2 ⟨rfl, hbw2⟩
  refine ⟨_, rfl, ?_⟩
  have hH2 : w2.heap[w.heap.size]? = some (.cells #[.int .i64 m.kind, .int .i64 m.n0, .int .i64 m.n1, .int .i64 m.n2, .int .i64 m.n3, .int .i64 m.n4, .int .i64 m.n5, .int .i64 m.n6, .int .i64 m.n7, .int .i64 m.n8, .int .i64 m.n9, .int .i64 m.n10, .int .i64 m.n11, .int .i64 m.n12, .int .i64 m.n13, .int .i64 m.err, .string (strOf m.name), .string (strOf m.text), .slice ba m.bats.length bc, .slice ea m.ents.length ec, .slice ia m.ints.length ic] 27) := (hbw2.block _ (lt_of_box hHeld)).trans hHeld
  refine hK.out _ _ hH2 (fun _ => ?_)
  clear hK K
  simp only [Act.put, List.setIfInBounds_toArray, List.set_cons_zero, List.set_cons_succ]
  refine wpAnyH_ready (rs := [5]) (by kernel_rfl) (by simp) ?_
  refine AllReadyH.cons rfl (fun K hK => ?_) AllReadyH.nil
  refine step_call19 rfl 11 12 rfl (.agg #[.int .i64 m.kind, .int .i64 m.n0, .int .i64 m.n1, .int .i64 m.n2, .int .i64 m.n3, .int .i64 m.n4, .int .i64 m.n5, .int .i64 m.n6, .int .i64 m.n7, .int .i64 m.n8, .int .i64 m.n9, .int .i64 m.n10, .int .i64 m.n11, .int .i64 m.n12, .int .i64 m.n13, .int .i64 m.err, .string (strOf m.name), .string (strOf m.text), .slice ba m.bats.length bc, .slice ea m.ents.length ec, .slice ia m.ints.length ic]) (.int .i64 er) (by simp) (by simp) (H19.out _) ?_
  rintro e w3 ⟨rfl, hbw3⟩
  refine ⟨_, rfl, ?_⟩
  have hH3 : w3.heap[w.heap.size]? = some (.cells #[.int .i64 m.kind, .int .i64 m.n0, .int .i64 m.n1, .int .i64 m.n2, .int .i64 m.n3, .int .i64 m.n4, .int .i64 m.n5, .int .i64 m.n6, .int .i64 m.n7, .int .i64 m.n8, .int .i64 m.n9, .int .i64 m.n10, .int .i64 m.n11, .int .i64 m.n12, .int .i64 m.n13, .int .i64 m.err, .string (strOf m.name), .string (strOf m.text), .slice ba m.bats.length bc, .slice ea m.ents.length ec, .slice ia m.ints.length ic] 27) := (hbw3.block _ (lt_of_box hH2)).trans hH2
  refine hK.out _ _ hH3 (fun _ => ?_)
  clear hK K
  simp only [Act.put, List.setIfInBounds_toArray, List.set_cons_zero, List.set_cons_succ]
  refine wpAnyH_ready (rs := [6]) (by kernel_rfl) (by simp) ?_
  refine AllReadyH.cons rfl (fun K hK => ?_) AllReadyH.nil
  refine step_call17 rfl 10 13 rfl (.agg V) (.agg V) (by simp) (by simp) (H17.out _) ?_
  rintro e w4 ⟨rfl, hbw4⟩
  refine ⟨_, rfl, ?_⟩
  have hH4 : w4.heap[w.heap.size]? = some (.cells #[.int .i64 m.kind, .int .i64 m.n0, .int .i64 m.n1, .int .i64 m.n2, .int .i64 m.n3, .int .i64 m.n4, .int .i64 m.n5, .int .i64 m.n6, .int .i64 m.n7, .int .i64 m.n8, .int .i64 m.n9, .int .i64 m.n10, .int .i64 m.n11, .int .i64 m.n12, .int .i64 m.n13, .int .i64 m.err, .string (strOf m.name), .string (strOf m.text), .slice ba m.bats.length bc, .slice ea m.ents.length ec, .slice ia m.ints.length ic] 27) := (hbw4.block _ (lt_of_box hH3)).trans hH3
  refine hK.out _ _ hH4 (fun _ => ?_)
  clear hK K
  simp only [Act.put, List.setIfInBounds_toArray, List.set_cons_zero, List.set_cons_succ]
  refine wpAnyH_ready (rs := [7]) (by kernel_rfl) (by simp) ?_
  refine AllReadyH.cons rfl (fun K hK => ?_) AllReadyH.nil
  go_simp
  refine hK.out _ _ hH4 (fun _ => ?_)
  clear hK K
  refine wpAnyH_done (by kernel_rfl) ?_ _
  have hd := X1.out.below.drew
  have BZ := hid (((hd.trans (hbw2.mono hd.size)).trans (hbw3.mono (Nat.le_trans hd.size hbw2.size))).trans (hbw4.mono (Nat.le_trans (Nat.le_trans hd.size hbw2.size) hbw3.size)))
  clear hd hbw2 hbw3 hbw4 hH2 hH3 hH4 hHeld
  go_wp2
  go_ret
  exact ⟨rfl, BZ.out⟩
end Go.Proofs.YtocdlaoklagdoaaDoor

/- What the arguments of a statement are in memory: messages. -/
namespace Go.Proofs.YtocdlaoklagdoaaDoor
open Go.ChangeShapes Go.WideShapes Go.ChangeAt Go.RowKit
set_option linter.unusedVariables false
set_option linter.unusedSimpArgs false
set_option maxRecDepth 100000

theorem own : ownKnob Tryd.prog.godebug = none := by kernel_rfl
theorem laidOut : laidOutB Tryd.prog = true := by kernel_rfl
theorem cells65 : Tryd.prog.cellsOf 65 = 3 := by kernel_rfl
theorem cells50 : Tryd.prog.cellsOf 50 = 6 := by kernel_rfl
theorem cells48 : Tryd.prog.cellsOf 48 = 1 := by kernel_rfl
theorem cells52 : Tryd.prog.cellsOf 52 = 3 := by kernel_rfl
theorem cells27 : Tryd.prog.cellsOf 27 = 21 := by kernel_rfl
theorem cells22 : Tryd.prog.cellsOf 22 = 1 := by kernel_rfl
theorem cells23 : Tryd.prog.cellsOf 23 = 1 := by kernel_rfl
theorem cells24 : Tryd.prog.cellsOf 24 = 1 := by kernel_rfl
theorem cells25 : Tryd.prog.cellsOf 25 = 1 := by kernel_rfl
theorem cells3 : Tryd.prog.cellsOf 3 = 1 := by kernel_rfl
theorem cells9 : Tryd.prog.cellsOf 9 = 1 := by kernel_rfl

section
variable {H : Type} {enc : TypeId × Value → H} {w : World} {base : Nat} {spare : Nat → Bool} {held : Bool}

theorem cellsUp {a : Addr} {n : Nat} {cs : List Value} (h : w.cells? base a n = some cs) : cs.length = n ∧ ∀ (i : Nat) (c : Value), cs[i]? = some c → w.cell? (a.add i) = some c := by
  unfold World.cells? at h
  split at h
  · have step : ∀ (r : List Nat) (z : List Value), List.mapM (fun i => w.cell? (a.add i)) r = some z → z.length = r.length ∧ ∀ (i j : Nat) (c : Value), r[i]? = some j → z[i]? = some c → w.cell? (a.add j) = some c := by
      intro r
      induction r with
      | nil => intro z hz; have e : z = [] := by simpa using hz.symm
               subst e; exact ⟨rfl, fun i j c hi => by simp at hi⟩
      | cons x r ih =>
        intro z hz
        rw [List.mapM_cons] at hz
        obtain ⟨c, h1, h2⟩ := Option.bind_eq_some_iff.1 hz
        obtain ⟨t, h3, h4⟩ := Option.bind_eq_some_iff.1 h2
        have e : z = c :: t := (Option.some.inj h4).symm
        subst e
        obtain ⟨i1, i2⟩ := ih t h3
        refine ⟨by simp [i1], fun i j d hi hd => ?_⟩
        cases i with
        | zero => simp at hi hd; subst hi; subst hd; exact h1
        | succ i => exact i2 i j d (by simpa using hi) (by simpa using hd)
    obtain ⟨s1, s2⟩ := step _ _ h
    refine ⟨by simpa using s1, fun i c hi => s2 i i c ?_ hi⟩
    have := (List.getElem?_eq_some_iff.1 hi).1
    rw [s1] at this
    rw [List.getElem?_range (by simpa using this)]
  · cases h

theorem add_add (b o i j : Nat) : ((⟨b, o, none⟩ : Addr).add i).add j = ⟨b, o + i + j, none⟩ := by
  have h : ∀ o i, (⟨b, o, none⟩ : Addr).add i = ⟨b, o + i, none⟩ := fun o i => by unfold Addr.add; split <;> simp_all
  rw [h, h]

theorem rec_of {fuel : Nat} {cs : List Value} {x : DataW H × List MemPlace} (h : DataW.trod enc Tryd.prog w base spare held fuel 65 cs = some x) :
    ∃ r : Rec, r.ok ∧ cs = [.string (strOf r.key), .string (strOf r.val), .int .i64 r.time] := by
  obtain ⟨xs, n, _, rfl, hl, hlen, hf⟩ := DataW.trod_struct Tryd.underlying65 h
  rw [cells65] at hl
  match cs, hl, xs, hlen with
  | [c0, c1, c2], _, [y0, y1, y2], _ =>
    have h0 := hf 0 _ rfl
    have h1 := hf 1 _ rfl
    have h2 := hf 2 _ rfl
    simp only [cells3, cells9, List.drop_zero, List.drop_succ_cons, List.take_succ_cons, List.take_zero, List.getElem?_cons_zero, List.getElem?_cons_succ] at h0 h1 h2
    obtain ⟨s0, e0, _, w0⟩ := DataW.trod_string Tryd.underlying9 h0
    obtain ⟨s1, e1, _, w1⟩ := DataW.trod_string Tryd.underlying9 h1
    obtain ⟨k, e2, _, wk⟩ := DataW.trod_int Tryd.underlying3 h2
    simp [cells3, cells9] at e0 e1 e2
    subst e0 e1 e2
    exact ⟨⟨s0.data.toList, s1.data.toList, k⟩, ⟨bounds_i64 wk, w0, w1⟩, by simp only [strOf_eq]⟩

/-- Records that came in. -/
theorem recs_in {cs : List Value} {fuel : Nat} {x : DataW H × List MemPlace} {v : Value} (hv : cs = [v]) (hf : DataW.trod enc Tryd.prog w 0 (fun _ => true) true fuel 48 cs = some x) : ∃ rs : List Rec, Recs w v rs := by
  subst hv
  rcases Deep.open_slice Tryd.underlying48 hf with ⟨hcs, _⟩ | ⟨x, l, c, m, n, D, Pl, hcs, _, hl, hm, hmm, _, hx⟩
  · simp at hcs
    subst hcs
    exact ⟨[], recs_nil w⟩
  · simp at hcs
    subst hcs
    simp only [if_true] at hmm
    subst hmm
    rw [cells65] at hx
    by_cases h0 : l = 0
    · subst h0
      exact ⟨[], ⟨_, _, rfl, .inl rfl⟩, by simp, by simp⟩
    · obtain ⟨b, off, spot⟩ := x
      have hspot : spot = none := by
        obtain ⟨cs', h1, h2⟩ := hx 0 (by omega)
        obtain ⟨o, ho, rfl⟩ := rec_of h2
        have hc := (cellsUp h1).2 0 _ rfl
        have := World.cell?_spot hc
        simpa [Addr.add] using this
      subst hspot
      have hall : ∀ i, i < m → ∃ o : Rec, o.ok ∧ RecCells w b (off + i * 3) o := fun i hi => by
        obtain ⟨cs', h1, h2⟩ := hx i hi
        obtain ⟨o, ho, rfl⟩ := rec_of h2
        have hc := (cellsUp h1).2
        have g0 := hc 0 _ rfl
        have g1 := hc 1 _ rfl
        have g2 := hc 2 _ rfl
        rw [add_add] at g0 g1 g2
        exact ⟨o, ho, g0, g1, g2⟩
      have hbw : b < w.heap.size := by
        obtain ⟨o, ho, hc, _⟩ := hall 0 (by omega)
        exact World.block_lt_of_cell? w _ hc
      have hV : ∃ V : Nat → Rec, ∀ i, i < m → (V i).ok ∧ RecCells w b (off + i * 3) (V i) :=
        ⟨fun i => if hi : i < m then Classical.choose (hall i hi) else ⟨[], [], 0⟩, fun i hi => by
          simp only [hi, dite_true]
          exact Classical.choose_spec (hall i hi)⟩
      obtain ⟨V, hV⟩ := hV
      refine ⟨(List.range l).map V, ⟨some ⟨b, off, none⟩, m, by rw [List.length_map, List.length_range], .inr ⟨b, off, rfl, hbw, fun i hi => ?_⟩⟩, fun r hr => ?_, by simp only [List.length_map, List.length_range]; omega⟩
      · simp only [List.length_map, List.length_range] at hi
        simp only [List.getElem_map, List.getElem_range]
        exact (hV i (by omega)).2
      · simp only [List.mem_map, List.mem_range] at hr
        obtain ⟨i, hi, rfl⟩ := hr
        exact (hV i (by omega)).1

theorem bat_cells {fuel : Nat} {cs : List Value} {x : DataW H × List MemPlace} (h : DataW.trod enc Tryd.prog w 0 (fun _ => true) true fuel 50 cs = some x) :
    ∃ (b : Bat) (a : Option Addr) (cap : Nat), b.ints ∧ Recs w (.slice a b.recs.length cap) b.recs ∧ cs = [.int .i64 b.base, .int .i64 b.epoch, .int .i64 b.pid, .int .i64 b.pidEpoch, .int .i64 b.seq, .slice a b.recs.length cap] := by
  obtain ⟨xs, n, _, rfl, hl, hlen, hf⟩ := DataW.trod_struct Tryd.underlying50 h
  rw [cells50] at hl
  match cs, hl, xs, hlen with
  | [c0, c1, c2, c3, c4, c5], _, [y0, y1, y2, y3, y4, y5], _ =>
    have h0 := hf 0 _ rfl
    have h1 := hf 1 _ rfl
    have h2 := hf 2 _ rfl
    have h3 := hf 3 _ rfl
    have h4 := hf 4 _ rfl
    have h5 := hf 5 _ rfl
    simp only [cells3, cells48, List.drop_zero, List.drop_succ_cons, List.take_succ_cons, List.take_zero, List.getElem?_cons_zero, List.getElem?_cons_succ] at h0 h1 h2 h3 h4 h5
    obtain ⟨k0, e0, _, w0⟩ := DataW.trod_int Tryd.underlying3 h0
    obtain ⟨k1, e1, _, w1⟩ := DataW.trod_int Tryd.underlying3 h1
    obtain ⟨k2, e2, _, w2⟩ := DataW.trod_int Tryd.underlying3 h2
    obtain ⟨k3, e3, _, w3⟩ := DataW.trod_int Tryd.underlying3 h3
    obtain ⟨k4, e4, _, w4⟩ := DataW.trod_int Tryd.underlying3 h4
    simp [cells3] at e0 e1 e2 e3 e4
    subst e0 e1 e2 e3 e4
    obtain ⟨rs, hrs⟩ := recs_in (v := c5) (by simp [cells48]) h5
    obtain ⟨a, cap, hc5, ha⟩ := hrs.shape
    subst hc5
    exact ⟨⟨k0, k1, k2, k3, k4, rs⟩, a, cap, ⟨bounds_i64 w0, bounds_i64 w1, bounds_i64 w2, bounds_i64 w3, bounds_i64 w4⟩, hrs, rfl⟩

/-- A batch that came in by value. -/
theorem bat_of {v : Value} {d : DataW H} {p : List MemPlace} {cs : Array Value} (hv : v = .agg cs) (h : DataW.Trod enc Tryd.prog w 0 (fun _ => true) true 50 v d p) :
    ∃ (b : Bat) (a : Option Addr) (cap : Nat), b.ints ∧ Recs w (.slice a b.recs.length cap) b.recs ∧ v = .agg #[.int .i64 b.base, .int .i64 b.epoch, .int .i64 b.pid, .int .i64 b.pidEpoch, .int .i64 b.seq, .slice a b.recs.length cap] := by
  subst hv
  obtain ⟨fuel, hf⟩ := h
  obtain ⟨b, a, cap, h1, h2, e⟩ := bat_cells hf
  refine ⟨b, a, cap, h1, h2, ?_⟩
  have e2 : cs.toList = [.int .i64 b.base, .int .i64 b.epoch, .int .i64 b.pid, .int .i64 b.pidEpoch, .int .i64 b.seq, .slice a b.recs.length cap] := by simpa [Value.cells] using e
  rw [← Array.toArray_toList (xs := cs), e2]
/-- Ints that came in. -/
theorem ints_in {cs : List Value} {fuel : Nat} {x : DataW H × List MemPlace} {v : Value} (hv : cs = [v]) (hf : DataW.trod enc Tryd.prog w 0 (fun _ => true) true fuel 25 cs = some x) :
    ∃ (zs : List Int) (a : Option Addr) (cap : Nat), v = .slice a zs.length cap ∧ IntsAt w a w.heap.size zs ∧ (∀ n ∈ zs, I64 n) ∧ zs.length ≤ maxLen := by
  subst hv
  rcases Deep.open_slice Tryd.underlying25 hf with ⟨hcs, _⟩ | ⟨x, l, c, m, n, D, Pl, hcs, _, hl, hm, hmm, _, hx⟩
  · simp at hcs
    subst hcs
    exact ⟨[], none, 0, rfl, .inl rfl, by simp, by simp⟩
  · simp at hcs
    subst hcs
    simp only [if_true] at hmm
    subst hmm
    rw [cells3] at hx
    by_cases h0 : l = 0
    · subst h0
      exact ⟨[], _, _, rfl, .inl rfl, by simp, by simp⟩
    · have hone : ∀ i, i < m → ∃ z : Int, I64 z ∧ w.cell? ((x.add (i * 1)).add 0) = some (.int .i64 z) := fun i hi => by
        obtain ⟨cs', h1, h2⟩ := hx i hi
        obtain ⟨hl1, hc⟩ := cellsUp h1
        obtain ⟨k, e0, _, wk⟩ := DataW.trod_int Tryd.underlying3 h2
        subst e0
        exact ⟨k, bounds_i64 wk, hc 0 _ rfl⟩
      obtain ⟨b, off, spot⟩ := x
      have hspot : spot = none := by
        obtain ⟨z, _, hc⟩ := hone 0 (by omega)
        have := World.cell?_spot hc
        simpa [Addr.add] using this
      subst hspot
      have hall : ∀ i, i < m → ∃ z : Int, I64 z ∧ w.cell? ⟨b, off + i, none⟩ = some (.int .i64 z) := fun i hi => by
        obtain ⟨z, hz, hc⟩ := hone i hi
        rw [add_add, Nat.mul_one, Nat.add_zero] at hc
        exact ⟨z, hz, hc⟩
      have hbw : b < w.heap.size := by
        obtain ⟨o, ho, hc⟩ := hall 0 (by omega)
        exact World.block_lt_of_cell? w _ hc
      have hV : ∃ V : Nat → Int, ∀ i, i < m → I64 (V i) ∧ w.cell? ⟨b, off + i, none⟩ = some (.int .i64 (V i)) :=
        ⟨fun i => if hi : i < m then Classical.choose (hall i hi) else 0, fun i hi => by
          simp only [hi, dite_true]
          exact Classical.choose_spec (hall i hi)⟩
      obtain ⟨V, hV⟩ := hV
      refine ⟨(List.range l).map V, some ⟨b, off, none⟩, m, by rw [List.length_map, List.length_range], .inr ⟨b, off, rfl, hbw, fun i hi => ?_⟩, fun n hn => ?_, by simp only [List.length_map, List.length_range]; omega⟩
      · simp only [List.length_map, List.length_range] at hi
        simp only [List.getElem_map, List.getElem_range]
        exact (hV i (by omega)).2
      · simp only [List.mem_map, List.mem_range] at hn
        obtain ⟨i, hi, rfl⟩ := hn
        exact (hV i (by omega)).1


theorem ent_of {fuel : Nat} {cs : List Value} {x : DataW H × List MemPlace} (h : DataW.trod enc Tryd.prog w 0 (fun _ => true) true fuel 52 cs = some x) :
    ∃ r : Ent, r.ok ∧ cs = [.int .i64 r.term, .int .i64 r.index, .string (strOf r.data)] := by
  obtain ⟨xs, n, _, rfl, hl, hlen, hf⟩ := DataW.trod_struct Tryd.underlying52 h
  rw [cells52] at hl
  match cs, hl, xs, hlen with
  | [c0, c1, c2], _, [y0, y1, y2], _ =>
    have h0 := hf 0 _ rfl
    have h1 := hf 1 _ rfl
    have h2 := hf 2 _ rfl
    simp only [cells3, cells9, List.drop_zero, List.drop_succ_cons, List.take_succ_cons, List.take_zero, List.getElem?_cons_zero, List.getElem?_cons_succ] at h0 h1 h2
    obtain ⟨k0, e0, _, w0⟩ := DataW.trod_int Tryd.underlying3 h0
    obtain ⟨k1, e1, _, w1⟩ := DataW.trod_int Tryd.underlying3 h1
    obtain ⟨s2, e2, _, w2⟩ := DataW.trod_string Tryd.underlying9 h2
    simp [cells3, cells9] at e0 e1 e2
    subst e0 e1 e2
    exact ⟨⟨k0, k1, s2.data.toList⟩, ⟨bounds_i64 w0, bounds_i64 w1, w2⟩, by simp only [strOf_eq]⟩
theorem ents_in {cs : List Value} {fuel : Nat} {x : DataW H × List MemPlace} {v : Value} (hv : cs = [v]) (hf : DataW.trod enc Tryd.prog w 0 (fun _ => true) true fuel 24 cs = some x) :
    ∃ (zs : List Ent) (a : Option Addr) (cap : Nat), v = .slice a zs.length cap ∧ EntsAt w a zs ∧ (∀ n ∈ zs, n.ok) ∧ zs.length ≤ maxLen := by
  subst hv
  rcases Deep.open_slice Tryd.underlying24 hf with ⟨hcs, _⟩ | ⟨x, l, c, m, n, D, Pl, hcs, _, hl, hm, hmm, _, hx⟩
  · simp at hcs
    subst hcs
    exact ⟨[], none, 0, rfl, .inl rfl, by simp, by simp⟩
  · simp at hcs
    subst hcs
    simp only [if_true] at hmm
    subst hmm
    rw [cells52] at hx
    by_cases h0 : l = 0
    · subst h0
      exact ⟨[], _, _, rfl, .inl rfl, by simp, by simp⟩
    · obtain ⟨b, off, spot⟩ := x
      have hspot : spot = none := by
        obtain ⟨cs', h1, h2⟩ := hx 0 (by omega)
        obtain ⟨o, ho, rfl⟩ := ent_of h2
        have hc := (cellsUp h1).2 0 _ rfl
        have := World.cell?_spot hc
        simpa [Addr.add] using this
      subst hspot
      have hall : ∀ i, i < m → ∃ o : Ent, o.ok ∧ EntCells w b (off + i * 3) o := fun i hi => by
        obtain ⟨cs', h1, h2⟩ := hx i hi
        obtain ⟨o, ho, rfl⟩ := ent_of h2
        have hc := (cellsUp h1).2
        have g0 := hc 0 _ rfl
        have g1 := hc 1 _ rfl
        have g2 := hc 2 _ rfl
        rw [add_add] at g0 g1 g2
        exact ⟨o, ho, g0, g1, g2⟩
      have hbw : b < w.heap.size := by
        obtain ⟨o, ho, hc, _⟩ := hall 0 (by omega)
        exact World.block_lt_of_cell? w _ hc
      have hV : ∃ V : Nat → Ent, ∀ i, i < m → (V i).ok ∧ EntCells w b (off + i * 3) (V i) :=
        ⟨fun i => if hi : i < m then Classical.choose (hall i hi) else ⟨0, 0, []⟩, fun i hi => by
          simp only [hi, dite_true]
          exact Classical.choose_spec (hall i hi)⟩
      obtain ⟨V, hV⟩ := hV
      refine ⟨(List.range l).map V, some ⟨b, off, none⟩, m, by rw [List.length_map, List.length_range], .inr ⟨b, off, rfl, hbw, fun i hi => ?_⟩, fun r hr => ?_, by simp only [List.length_map, List.length_range]; omega⟩
      · simp only [List.length_map, List.length_range] at hi
        simp only [List.getElem_map, List.getElem_range]
        exact (hV i (by omega)).2
      · simp only [List.mem_map, List.mem_range] at hr
        obtain ⟨i, hi, rfl⟩ := hr
        exact (hV i (by omega)).1
theorem bats_in {cs : List Value} {fuel : Nat} {x : DataW H × List MemPlace} {v : Value} (hv : cs = [v]) (hf : DataW.trod enc Tryd.prog w 0 (fun _ => true) true fuel 23 cs = some x) :
    ∃ (zs : List Bat) (a : Option Addr) (cap : Nat), v = .slice a zs.length cap ∧ BatsAt w a zs ∧ (∀ n ∈ zs, n.ints) ∧ zs.length ≤ maxLen := by
  subst hv
  rcases Deep.open_slice Tryd.underlying23 hf with ⟨hcs, _⟩ | ⟨x, l, c, m, n, D, Pl, hcs, _, hl, hm, hmm, _, hx⟩
  · simp at hcs
    subst hcs
    exact ⟨[], none, 0, rfl, .inl rfl, by simp, by simp⟩
  · simp at hcs
    subst hcs
    simp only [if_true] at hmm
    subst hmm
    rw [cells50] at hx
    by_cases h0 : l = 0
    · subst h0
      exact ⟨[], _, _, rfl, .inl rfl, by simp, by simp⟩
    · obtain ⟨b, off, spot⟩ := x
      have hspot : spot = none := by
        obtain ⟨cs', h1, h2⟩ := hx 0 (by omega)
        obtain ⟨o, ra, rc, ho, hr, rfl⟩ := bat_cells h2
        have hc := (cellsUp h1).2 0 _ rfl
        have := World.cell?_spot hc
        simpa [Addr.add] using this
      subst hspot
      have hall : ∀ i, i < m → ∃ o : Bat, o.ints ∧ ∃ ra rc, BatCells w b (off + i * 6) o ra rc ∧ Recs w (.slice ra o.recs.length rc) o.recs := fun i hi => by
        obtain ⟨cs', h1, h2⟩ := hx i hi
        obtain ⟨o, ra, rc, ho, hr, rfl⟩ := bat_cells h2
        have hc := (cellsUp h1).2
        have g0 := hc 0 _ rfl
        have g1 := hc 1 _ rfl
        have g2 := hc 2 _ rfl
        have g3 := hc 3 _ rfl
        have g4 := hc 4 _ rfl
        have g5 := hc 5 _ rfl
        rw [add_add] at g0 g1 g2 g3 g4 g5
        exact ⟨o, ho, ra, rc, ⟨g0, g1, g2, g3, g4, g5⟩, hr⟩
      have hbw : b < w.heap.size := by
        obtain ⟨o, ho, ra, rc, ⟨hc, _⟩, _⟩ := hall 0 (by omega)
        exact World.block_lt_of_cell? w _ hc
      have hV : ∃ V : Nat → Bat, ∀ i, i < m → (V i).ints ∧ ∃ ra rc, BatCells w b (off + i * 6) (V i) ra rc ∧ Recs w (.slice ra (V i).recs.length rc) (V i).recs :=
        ⟨fun i => if hi : i < m then Classical.choose (hall i hi) else zeroBat, fun i hi => by
          simp only [hi, dite_true]
          exact Classical.choose_spec (hall i hi)⟩
      obtain ⟨V, hV⟩ := hV
      refine ⟨(List.range l).map V, some ⟨b, off, none⟩, m, by rw [List.length_map, List.length_range], .inr ⟨b, off, rfl, hbw, fun i hi => ?_⟩, fun r hr => ?_, by simp only [List.length_map, List.length_range]; omega⟩
      · simp only [List.length_map, List.length_range] at hi
        simp only [List.getElem_map, List.getElem_range]
        exact (hV i (by omega)).2
      · simp only [List.mem_map, List.mem_range] at hr
        obtain ⟨i, hi, rfl⟩ := hr
        exact (hV i (by omega)).1

set_option maxHeartbeats 1600000 in
theorem msg_cells {fuel : Nat} {cs : List Value} {x : DataW H × List MemPlace} (h : DataW.trod enc Tryd.prog w 0 (fun _ => true) true fuel 27 cs = some x) :
    ∃ (m : Msg) (ba : Option Addr) (bc : Nat) (ea : Option Addr) (ec : Nat) (ia : Option Addr) (ic : Nat), m.ok ∧ Here w m ba ea ia ∧ cs = [.int .i64 m.kind, .int .i64 m.n0, .int .i64 m.n1, .int .i64 m.n2, .int .i64 m.n3, .int .i64 m.n4, .int .i64 m.n5, .int .i64 m.n6, .int .i64 m.n7, .int .i64 m.n8, .int .i64 m.n9, .int .i64 m.n10, .int .i64 m.n11, .int .i64 m.n12, .int .i64 m.n13, .int .i64 m.err, .string (strOf m.name), .string (strOf m.text), .slice ba m.bats.length bc, .slice ea m.ents.length ec, .slice ia m.ints.length ic] := by
  obtain ⟨xs, n, _, rfl, hl, hlen, hf⟩ := DataW.trod_struct Tryd.underlying27 h
  rw [cells27] at hl
  match cs, hl, xs, hlen with
  | [c0, c1, c2, c3, c4, c5, c6, c7, c8, c9, c10, c11, c12, c13, c14, c15, c16, c17, c18, c19, c20], _, [y0, y1, y2, y3, y4, y5, y6, y7, y8, y9, y10, y11, y12, y13, y14, y15, y16, y17, y18, y19, y20], _ =>
    have h0 := hf 0 _ rfl
    have h1 := hf 1 _ rfl
    have h2 := hf 2 _ rfl
    have h3 := hf 3 _ rfl
    have h4 := hf 4 _ rfl
    have h5 := hf 5 _ rfl
    have h6 := hf 6 _ rfl
    have h7 := hf 7 _ rfl
    have h8 := hf 8 _ rfl
    have h9 := hf 9 _ rfl
    have h10 := hf 10 _ rfl
    have h11 := hf 11 _ rfl
    have h12 := hf 12 _ rfl
    have h13 := hf 13 _ rfl
    have h14 := hf 14 _ rfl
    have h15 := hf 15 _ rfl
    have h16 := hf 16 _ rfl
    have h17 := hf 17 _ rfl
    have h18 := hf 18 _ rfl
    have h19 := hf 19 _ rfl
    have h20 := hf 20 _ rfl
    simp only [cells3, cells9, cells22, cells23, cells24, cells25, List.drop_zero, List.drop_succ_cons, List.take_succ_cons, List.take_zero, List.getElem?_cons_zero, List.getElem?_cons_succ] at h0 h1 h2 h3 h4 h5 h6 h7 h8 h9 h10 h11 h12 h13 h14 h15 h16 h17 h18 h19 h20
    obtain ⟨k0, e0, _, w0⟩ := DataW.trod_int Tryd.underlying3 h0
    obtain ⟨k1, e1, _, w1⟩ := DataW.trod_int Tryd.underlying3 h1
    obtain ⟨k2, e2, _, w2⟩ := DataW.trod_int Tryd.underlying3 h2
    obtain ⟨k3, e3, _, w3⟩ := DataW.trod_int Tryd.underlying3 h3
    obtain ⟨k4, e4, _, w4⟩ := DataW.trod_int Tryd.underlying3 h4
    obtain ⟨k5, e5, _, w5⟩ := DataW.trod_int Tryd.underlying3 h5
    obtain ⟨k6, e6, _, w6⟩ := DataW.trod_int Tryd.underlying3 h6
    obtain ⟨k7, e7, _, w7⟩ := DataW.trod_int Tryd.underlying3 h7
    obtain ⟨k8, e8, _, w8⟩ := DataW.trod_int Tryd.underlying3 h8
    obtain ⟨k9, e9, _, w9⟩ := DataW.trod_int Tryd.underlying3 h9
    obtain ⟨k10, e10, _, w10⟩ := DataW.trod_int Tryd.underlying3 h10
    obtain ⟨k11, e11, _, w11⟩ := DataW.trod_int Tryd.underlying3 h11
    obtain ⟨k12, e12, _, w12⟩ := DataW.trod_int Tryd.underlying3 h12
    obtain ⟨k13, e13, _, w13⟩ := DataW.trod_int Tryd.underlying3 h13
    obtain ⟨k14, e14, _, w14⟩ := DataW.trod_int Tryd.underlying3 h14
    obtain ⟨k15, e15, _, w15⟩ := DataW.trod_int Tryd.underlying22 h15
    obtain ⟨s16, e16, _, w16⟩ := DataW.trod_string Tryd.underlying9 h16
    obtain ⟨s17, e17, _, w17⟩ := DataW.trod_string Tryd.underlying9 h17
    simp [cells3, cells9, cells22] at e0 e1 e2 e3 e4 e5 e6 e7 e8 e9 e10 e11 e12 e13 e14 e15 e16 e17
    subst e0 e1 e2 e3 e4 e5 e6 e7 e8 e9 e10 e11 e12 e13 e14 e15 e16 e17
    obtain ⟨bs, ba, bc, hb1, hb2, hb3, hb4⟩ := bats_in (v := c18) (by simp [cells23]) h18
    obtain ⟨es, ea, ec, he1, he2, he3, he4⟩ := ents_in (v := c19) (by simp [cells24]) h19
    obtain ⟨is, ia, ic, hi1, hi2, hi3, hi4⟩ := ints_in (v := c20) (by simp [cells25]) h20
    subst hb1
    subst he1
    subst hi1
    refine ⟨⟨k0, k1, k2, k3, k4, k5, k6, k7, k8, k9, k10, k11, k12, k13, k14, k15, s16.data.toList, s17.data.toList, bs, es, is⟩, ba, bc, ea, ec, ia, ic, ⟨bounds_i64 w0, fun n hn => ?_, bounds_i64 w15, w16, w17, hb3, hb4, he3, he4, hi3, hi4⟩, ⟨hb2, he2, hi2⟩, by simp only [strOf_eq]⟩
    simp only [nums, List.mem_cons, List.not_mem_nil, or_false] at hn
    rcases hn with rfl | rfl | rfl | rfl | rfl | rfl | rfl | rfl | rfl | rfl | rfl | rfl | rfl | rfl
    · exact bounds_i64 w1
    · exact bounds_i64 w2
    · exact bounds_i64 w3
    · exact bounds_i64 w4
    · exact bounds_i64 w5
    · exact bounds_i64 w6
    · exact bounds_i64 w7
    · exact bounds_i64 w8
    · exact bounds_i64 w9
    · exact bounds_i64 w10
    · exact bounds_i64 w11
    · exact bounds_i64 w12
    · exact bounds_i64 w13
    · exact bounds_i64 w14

/-- A message that came in by value. -/
theorem msg_of {v : Value} {d : DataW H} {p : List MemPlace} {cs : Array Value} (hv : v = .agg cs) (h : DataW.Trod enc Tryd.prog w 0 (fun _ => true) true 27 v d p) :
    ∃ (m : Msg) (ba : Option Addr) (bc : Nat) (ea : Option Addr) (ec : Nat) (ia : Option Addr) (ic : Nat), m.ok ∧ Here w m ba ea ia ∧ v = .agg #[.int .i64 m.kind, .int .i64 m.n0, .int .i64 m.n1, .int .i64 m.n2, .int .i64 m.n3, .int .i64 m.n4, .int .i64 m.n5, .int .i64 m.n6, .int .i64 m.n7, .int .i64 m.n8, .int .i64 m.n9, .int .i64 m.n10, .int .i64 m.n11, .int .i64 m.n12, .int .i64 m.n13, .int .i64 m.err, .string (strOf m.name), .string (strOf m.text), .slice ba m.bats.length bc, .slice ea m.ents.length ec, .slice ia m.ints.length ic] := by
  subst hv
  obtain ⟨fuel, hf⟩ := h
  obtain ⟨m, ba, bc, ea, ec, ia, ic, h1, h2, e⟩ := msg_cells hf
  refine ⟨m, ba, bc, ea, ec, ia, ic, h1, h2, ?_⟩
  have e2 : cs.toList = [.int .i64 m.kind, .int .i64 m.n0, .int .i64 m.n1, .int .i64 m.n2, .int .i64 m.n3, .int .i64 m.n4, .int .i64 m.n5, .int .i64 m.n6, .int .i64 m.n7, .int .i64 m.n8, .int .i64 m.n9, .int .i64 m.n10, .int .i64 m.n11, .int .i64 m.n12, .int .i64 m.n13, .int .i64 m.err, .string (strOf m.name), .string (strOf m.text), .slice ba m.bats.length bc, .slice ea m.ents.length ec, .slice ia m.ints.length ic] := by simpa [Value.cells] using e
  rw [← Array.toArray_toList (xs := cs), e2]
end
end Go.Proofs.YtocdlaoklagdoaaDoor

/- The library's tables, as the program's text lays them. -/
namespace Go.Proofs.YtocdlaoklagdoaaDoor
open Go.ChangeShapes Go.WideShapes Go.ChangeAt Go.RowKit
set_option linter.unusedVariables false
set_option maxRecDepth 100000

def laid2 : List (String × DataW Unit) := [("math/bits.deBruijn32tab", Rows.laid_math_bits_deBruijn32tab), ("math/bits.deBruijn64tab", Rows.laid_math_bits_deBruijn64tab)]
theorem g64 : Tryd.prog.globalNamed "math/bits.deBruijn64tab" = some 1 := by kernel_rfl
theorem t64 : (Tryd.prog.globals[1]?).map (·.type) = some 110 := by kernel_rfl
theorem cells5 : Tryd.prog.cellsOf 5 = 1 := by kernel_rfl
theorem cells110 : Tryd.prog.cellsOf 110 = 64 := by kernel_rfl
theorem door_met (os : Os) (args : Array Value) : laidMetH Tryd.prog laid2 ((World.doorLaid Tryd.prog 400 os).forCall (fun _ _ => 0) ⟨#[], args, []⟩).memory :=
  laidMetH_of_parts3 (fuel := 8) (laidMet_of_run' 8 (by kernel_rfl) (by kernel_rfl)) (by kernel_rfl) (by kernel_rfl)
theorem tab_of_laid {W : World} (h : laidMetH Tryd.prog laid2 W) : Tab W := by
  rw [MakeChecks.laidMetH_plain _ _ _ (by kernel_rfl)] at h
  have h2 : laidMet Tryd.prog [("math/bits.deBruijn64tab", Lib.tabData .u8 (Lib.deBruijn64tab.map Int.ofNat))] W := laidMet.tail h
  have hT := Lib.tabIs_of_head g64 t64 Tryd.underlying110 Tryd.underlying5 cells5 cells110 h2
  have hc : ∀ j, j < Lib.deBruijn64tab.length → W.cell? ⟨1, j, none⟩ = some (.int .u8 (Lib.deBruijn64tab.getD j 0 : Nat)) := fun j hj => by
    have := hT.cell g64 j (by simpa using hj)
    rw [this]
    congr 2
    simp [List.getD, hj]
  exact And.intro hc (by have := World.block_lt_of_cell? W _ (hc 0 (by decide)); exact this)
end Go.Proofs.YtocdlaoklagdoaaDoor
