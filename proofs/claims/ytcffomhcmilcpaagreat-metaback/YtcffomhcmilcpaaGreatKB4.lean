/- The rows of topics and of partitions grow by what was read: one region each, over any frame. -/
import Derived.Test.YtcffomhcmilcpaaGreatK13
namespace Go.Proofs.YtcffomhcmilcpaaGreat
open Go.RowKit Go.Maps
set_option maxRecDepth 100000
set_option linter.unusedSimpArgs false
set_option linter.unusedVariables false
@[reducible] def pTx0 : Oper := { dst := some 41, op := Op.move (Operand.tmp 0), type := 25, pos := "bytes.go:91", after := #[], guard := none }
@[reducible] def pTx1 : Oper := { dst := some 42, op := Op.move (Operand.tmp 0), type := 25, pos := "bytes.go:91", after := #[], guard := none }
@[reducible] def pTx2 : Oper := { dst := some 43, op := Op.nilCheck (Operand.tmp 42), type := 0, pos := "bytes.go:91", after := #[{ on := 1, ground := Ground.data }], guard := none }
@[reducible] def pTx3 : Oper := { dst := some 44, op := Op.fieldAddr 70 (Operand.tmp 43) 2, type := 0, pos := "bytes.go:91", after := #[{ on := 2, ground := Ground.data }], guard := none }
@[reducible] def pTx4 : Oper := { dst := some 45, op := Op.load 68 (Operand.tmp 44), type := 68, pos := "bytes.go:91", after := #[{ on := 3, ground := Ground.data }], guard := none }
@[reducible] def pTx5 : Oper := { dst := some 46, op := Op.load 96 (Operand.tmp 5), type := 96, pos := "bytes.go:91", after := #[], guard := none }
@[reducible] def pTx6 : Oper := { dst := some 47, op := Op.buildSlice 68 1 #[(0, Operand.tmp 46)], type := 68, pos := "bytes.go:91", after := #[{ on := 5, ground := Ground.data }], guard := none }
@[reducible] def pTx7 : Oper := { dst := some 48, op := Op.call ({ callee := Callee.builtin Builtin.append, args := #[Operand.tmp 45, Operand.tmp 47], argTypes := #[68, 68] }), type := 68, pos := "bytes.go:91", after := #[{ on := 4, ground := Ground.data }, { on := 6, ground := Ground.data }], guard := none }
@[reducible] def pTx8 : Oper := { dst := some 49, op := Op.nilCheck (Operand.tmp 41), type := 0, pos := "bytes.go:91", after := #[{ on := 0, ground := Ground.data }, { on := 0, ground := Ground.phase }, { on := 1, ground := Ground.phase }, { on := 2, ground := Ground.phase }, { on := 3, ground := Ground.phase }, { on := 4, ground := Ground.phase }, { on := 5, ground := Ground.phase }, { on := 6, ground := Ground.phase }, { on := 7, ground := Ground.phase }], guard := none }
@[reducible] def pTx9 : Oper := { dst := some 50, op := Op.fieldAddr 70 (Operand.tmp 49) 2, type := 0, pos := "bytes.go:91", after := #[{ on := 8, ground := Ground.data }, { on := 0, ground := Ground.phase }, { on := 1, ground := Ground.phase }, { on := 2, ground := Ground.phase }, { on := 3, ground := Ground.phase }, { on := 4, ground := Ground.phase }, { on := 5, ground := Ground.phase }, { on := 6, ground := Ground.phase }, { on := 7, ground := Ground.phase }], guard := none }
@[reducible] def pTx10 : Oper := { dst := none, op := Op.store 68 (Operand.tmp 50) (Operand.tmp 48), type := 0, pos := "bytes.go:91", after := #[{ on := 9, ground := Ground.data }, { on := 7, ground := Ground.data }, { on := 7, ground := Ground.chain }, { on := 0, ground := Ground.phase }, { on := 1, ground := Ground.phase }, { on := 2, ground := Ground.phase }, { on := 3, ground := Ground.phase }, { on := 4, ground := Ground.phase }, { on := 5, ground := Ground.phase }, { on := 6, ground := Ground.phase }, { on := 7, ground := Ground.phase }], guard := none }
@[reducible] def pTs : Array Oper := #[pTx0, pTx1, pTx2, pTx3, pTx4, pTx5, pTx6, pTx7, pTx8, pTx9, pTx10]
set_option maxHeartbeats 4000000 in
theorem regionT {Q : Exit → Act → World → Prop} (a : Act) {W : World} {L : Nat → Prop} {q b : Nat} {oa : Option Addr} {cap : Nat} {vp ve : Value} {ps : List (Value × Pt)} {I : Im} (h : ImC W L q b (.slice oa I.tops.length cap) vp ve ps I) (t : Tp) (xt : Nat) (hxt : W.heap[xt]? = some (.cells #[.string t.name, .int .i64 t.first, .int .i64 t.count] 96)) (hxo : ¬ Own q b (.slice oa I.tops.length cap) vp ve xt) (hok : ImOk { I with tops := I.tops ++ [t] })
    (h0 : a.eval (.tmp 0) = .pointer (some ⟨q, 0, none⟩)) (h7 : a.eval (.tmp 5) = .pointer (some ⟨xt, 0, none⟩)) (hsz : a.tmps.size = 52)
    (hQ : ∀ (g c : Nat) (W3 : World), ImC W3 L q b (.slice (some ⟨g, 0, none⟩) (I.tops.length + 1) c) vp ve ps { I with tops := I.tops ++ [t] } → ((Value.slice oa I.tops.length cap).ownBlock = some g ∨ W.heap.size ≤ g) → Keeps (Own q b (.slice oa I.tops.length cap) vp ve) W W3 → Q .normal (((((((((((a.put (some 41) (.pointer (some ⟨q, 0, none⟩))).put (some 42) (.pointer (some ⟨q, 0, none⟩))).put (some 43) (.pointer (some ⟨q, 0, none⟩))).put (some 44) (.pointer (some ⟨q, 2, none⟩))).put (some 45) (.slice oa I.tops.length cap)).put (some 46) (.agg #[.string t.name, .int .i64 t.first, .int .i64 t.count])).put (some 47) (.slice (some ⟨W.heap.size, 0, none⟩) 1 1)).put (some 48) (.slice (some ⟨g, 0, none⟩) (I.tops.length + 1) c)).put (some 49) (.pointer (some ⟨q, 0, none⟩))).put (some 50) (.pointer (some ⟨q, 2, none⟩))).put none undef) W3) :
    (Code.region 6 pTs true).wp Tryz.prog Q a W := by
  obtain ⟨j0, hj0, hz0, hz1, hz2⟩ := info96
  have hfew := h.ok.topsFew
  have hqlt : q < W.heap.size := h.lt (.inl rfl)
  have hxlt : xt < W.heap.size := (Array.getElem?_eq_some_iff.1 hxt).1
  have hbA : Below W.heap.size W ((W.alloc (.cells #[.string t.name, .int .i64 t.first, .int .i64 t.count] 96)).drew) := ((Below.refl _ _).alloc (Nat.le_refl _) _).drew
  have HROW : ((W.alloc (.cells #[.string t.name, .int .i64 t.first, .int .i64 t.count] 96)).drew).ownsRow 0 96 3 (.slice oa I.tops.length cap) I.tops.length (flatT I.tops) := (h.under hbA).tops
  have HNEW : ∀ j u, ([.string t.name, .int .i64 t.first, .int .i64 t.count] : List Value)[j]? = some u → ((W.alloc (.cells #[.string t.name, .int .i64 t.first, .int .i64 t.count] 96)).drew).cell? ((⟨W.heap.size, 0, none⟩ : Addr).add j) = some u := fun j u hu => by
    rw [add_at, Nat.zero_add]
    refine cell_blk (w := (W.alloc (.cells #[.string t.name, .int .i64 t.first, .int .i64 t.count] 96)).drew) (heap_alloc_new W (.cells #[.string t.name, .int .i64 t.first, .int .i64 t.count] 96)) j u ?_
    rw [← hu]
    simp
  have HONE : ∀ u ∈ ([.string t.name, .int .i64 t.first, .int .i64 t.count] : List Value), u.oneCell' = true := fun u hu => by
    simp at hu
    rcases hu with rfl | rfl | rfl <;> rfl
  have HSZ : ((W.alloc (.cells #[.string t.name, .int .i64 t.first, .int .i64 t.count] 96)).drew).heap.size = W.heap.size + 1 := by simp
  have HG : ∀ (w5 : World) (g c : Nat), w5.ownsRow 0 96 3 (.slice (some ⟨g, 0, none⟩) (I.tops.length + 1) c) (I.tops.length + 1) (flatT I.tops ++ [.string t.name, .int .i64 t.first, .int .i64 t.count]) → ((W.alloc (.cells #[.string t.name, .int .i64 t.first, .int .i64 t.count] 96)).drew).grownBy w5 (Value.slice oa I.tops.length cap).ownBlock → ((Value.slice oa I.tops.length cap).ownBlock = some g ∨ g = W.heap.size + 1) →
      w5.heap[q]? = some (.cells #[.int .i64 I.applied, .map (some b), .slice oa I.tops.length cap, vp, ve] 70) ∧ w5.heap[xt]? = some (.cells #[.string t.name, .int .i64 t.first, .int .i64 t.count] 96) ∧ ImC (w5.setCell ⟨q, 2, none⟩ (.slice (some ⟨g, 0, none⟩) (I.tops.length + 1) c)) L q b (.slice (some ⟨g, 0, none⟩) (I.tops.length + 1) c) vp ve ps { I with tops := I.tops ++ [t] } ∧ Keeps (Own q b (.slice oa I.tops.length cap) vp ve) W (w5.setCell ⟨q, 2, none⟩ (.slice (some ⟨g, 0, none⟩) (I.tops.length + 1) c)) := fun w5 g c hown hg hat => by
    have hs5 := hg.size
    have hblk : ∀ k, k < W.heap.size → (Value.slice oa I.tops.length cap).ownBlock ≠ some k → w5.heap[k]? = W.heap[k]? := fun k hk hne => by
      rw [hg.block k (by rw [HSZ]; omega) (fun e => hne e.symm), hbA.block k hk]
    have hqc := (hblk q hqlt h.ne_q.1).trans h.cells
    have hnew : ∀ k, (Value.slice (some ⟨g, 0, none⟩) (I.tops.length + 1) c).ownBlock = some k → (Value.slice oa I.tops.length cap).ownBlock = some k ∨ W.heap.size ≤ k := fun k hk => by
      cases hk
      rcases hat with e | e
      · exact .inl e
      · exact .inr (by show W.heap.size ≤ g; omega)
    have hoth : ∀ k, k < W.heap.size → k ≠ q → (Value.slice oa I.tops.length cap).ownBlock ≠ some k → (w5.setCell ⟨q, 2, none⟩ (.slice (some ⟨g, 0, none⟩) (I.tops.length + 1) c)).heap[k]? = W.heap[k]? := fun k hk hkq hke => by
      rw [Below.heap_setCell _ _ _ _ hkq]; exact hblk k hk hke
    refine ⟨hqc, (hblk xt hxlt (fun e => hxo (.inr (.inr (.inl e))))).trans hxt, h.swapT (by simp; omega) hoth (set_box hqc) ?_ hnew hok, ⟨hg.os, hg.tape, hg.output, by simp; omega, fun k hk hS => hoth k hk (fun e => hS (.inl e)) (fun e => hS (.inr (.inr (.inl e))))⟩⟩
    have hqv : (Value.slice (some ⟨g, 0, none⟩) (I.tops.length + 1) c).ownBlock ≠ some q := fun e => by
      rcases hnew q e with e | e
      · exact h.ne_q.1 e
      · omega
    have h3 := row_kept hown (w1 := w5.setCell ⟨q, 2, none⟩ (.slice (some ⟨g, 0, none⟩) (I.tops.length + 1) c)) (fun k hk => Below.heap_setCell _ _ _ _ (fun e => hqv (by rw [hk, e])))
    rw [List.length_append, flatT_append]
    exact h3
  have HS0 : W.drew.heap[q]? = some (.cells #[.int .i64 I.applied, .map (some b), .slice oa I.tops.length cap, vp, ve] 70) ∧ W.drew.heap[xt]? = some (.cells #[.string t.name, .int .i64 t.first, .int .i64 t.count] 96) := ⟨h.cells, hxt⟩
  have HDD : W.drew.alloc (.cells #[.string t.name, .int .i64 t.first, .int .i64 t.count] 96) = (W.alloc (.cells #[.string t.name, .int .i64 t.first, .int .i64 t.count] 96)).drew := rfl
  have HS1 : (W.drew.alloc (.cells #[.string t.name, .int .i64 t.first, .int .i64 t.count] 96)).heap[q]? = some (.cells #[.int .i64 I.applied, .map (some b), .slice oa I.tops.length cap, vp, ve] 70) ∧ (W.drew.alloc (.cells #[.string t.name, .int .i64 t.first, .int .i64 t.count] 96)).heap[xt]? = some (.cells #[.string t.name, .int .i64 t.first, .int .i64 t.count] 96) := ⟨(hbA.block q hqlt).trans h.cells, (hbA.block xt hxlt).trans hxt⟩
  clear hbA h hxt hxo hok
  generalize hFM : flatT I.tops = FM at *
  refine wp_region_noPanic ?_
  refine region_last (fun V => V.heap[q]? = some (.cells #[.int .i64 I.applied, .map (some b), .slice oa I.tops.length cap, vp, ve] 70) ∧ V.heap[xt]? = some (.cells #[.string t.name, .int .i64 t.first, .int .i64 t.count] 96)) 10 (by kernel_rfl) ?_
  refine ButLast.take (oi := pTx0) 0 (.pointer (some ⟨q, 0, none⟩)) [9, 8] (by rfl) (by kernel_rfl) (by kernel_rfl) (by kernel_rfl) (by kernel_rfl) (by kernel_rfl) (fun c a w h => h) (yields_move (by rfl) 0 (by rfl) h0) HS0 ?_
  refine ButLast.take (oi := pTx1) 1 (.pointer (some ⟨q, 0, none⟩)) [7, 4, 3, 2] (by rfl) (by kernel_rfl) (by kernel_rfl) (by kernel_rfl) (by kernel_rfl) (by kernel_rfl) (fun c a w h => h) (yields_move (by rfl) 0 (by rfl) (by simp [put_eval, put_size, hsz, h0, h7])) HS0 ?_
  refine ButLast.take (oi := pTx2) 2 (.pointer (some ⟨q, 0, none⟩)) [7, 4, 3] (by rfl) (by kernel_rfl) (by kernel_rfl) (by kernel_rfl) (by kernel_rfl) (by kernel_rfl) (fun c a w h => h) (yields_nil (by rfl) 42 q (by rfl) (by simp [put_eval, put_size, hsz, h0, h7])) HS0 ?_
  refine ButLast.take (oi := pTx3) 3 (.pointer (some ⟨q, 2, none⟩)) [7, 4] (by rfl) (by kernel_rfl) (by kernel_rfl) (by kernel_rfl) (by kernel_rfl) (by kernel_rfl) (fun c a w h => h) (yields_field70_2 (by rfl) 43 q (by rfl) (by simp [put_eval, put_size, hsz, h0, h7])) HS0 ?_
  refine ButLast.take (oi := pTx4) 4 (.slice oa I.tops.length cap) [7] (by rfl) (by kernel_rfl) (by kernel_rfl) (by kernel_rfl) (by kernel_rfl) (by kernel_rfl) (fun c a w h => h) (yields_load68 (by rfl) 44 q 2 (by rfl) (by simp [put_eval, put_size, hsz, h0, h7]) _ (fun V hV => cell_blk hV.1 2 _ rfl)) HS0 ?_
  refine ButLast.take (oi := pTx5) 5 (.agg #[.string t.name, .int .i64 t.first, .int .i64 t.count]) [7, 6] (by rfl) (by kernel_rfl) (by kernel_rfl) (by kernel_rfl) (by kernel_rfl) (by kernel_rfl) (fun c a w h => h) (yields_load96 (by rfl) 5 xt (by rfl) (by simp [put_eval, put_size, hsz, h0, h7]) _ _ _ (fun V hV => hV.2)) HS0 ?_
  refine ButLast.one (o := pTx6) 6 (by kernel_rfl) (by rfl) (fun K hK => ?_)
  refine step_one68 (by rfl) 46 (by rfl) t.name t.first t.count (by simp [put_eval, put_size, hsz, h0, h7]) ?_
  refine hK.out _ _ (fun _ => HS1) ?_
  clear hK K
  rw [HDD]
  refine ButLast.one (o := pTx7) 7 (by kernel_rfl) (by rfl) (fun K hK => ?_)
  refine step_append_lies _ (by rfl) (.tmp 45) (.tmp 47) 68 (by rfl) 0 96 j0 _ 3 32 Tryz.underlying68 hj0 hz0 hz1 hz2 rfl (by decide) (.slice oa I.tops.length cap) I.tops.length FM (by simp [put_eval, put_size, hsz, h0, h7]) HROW ⟨W.heap.size, 0, none⟩ 1 1 [.string t.name, .int .i64 t.first, .int .i64 t.count] (by simp [put_eval, put_size, hsz, h0, h7]) rfl HNEW HONE (by decide) (by unfold maxLen; omega) (by omega) (Nat.zero_le _) (W.heap.size + 1) HSZ ?_
  intro g c w5 hown5 hg5 hat5 hlt5
  obtain ⟨f1, f2, f0, f3⟩ := HG w5 g c hown5 hg5 hat5
  have HS5 : w5.heap[q]? = some (.cells #[.int .i64 I.applied, .map (some b), .slice oa I.tops.length cap, vp, ve] 70) ∧ w5.heap[xt]? = some (.cells #[.string t.name, .int .i64 t.first, .int .i64 t.count] 96) := ⟨f1, f2⟩
  refine hK.out _ _ (fun _ => HS5) ?_
  clear hK K
  refine ButLast.take (oi := pTx8) 8 (.pointer (some ⟨q, 0, none⟩)) [9] (by rfl) (by kernel_rfl) (by kernel_rfl) (by kernel_rfl) (by kernel_rfl) (by kernel_rfl) (fun c a w h => h) (yields_nil (by rfl) 41 q (by rfl) (by simp [put_eval, put_size, hsz, h0, h7])) HS5 ?_
  refine ButLast.take (oi := pTx9) 9 (.pointer (some ⟨q, 2, none⟩)) [] (by rfl) (by kernel_rfl) (by kernel_rfl) (by kernel_rfl) (by kernel_rfl) (by kernel_rfl) (fun c a w h => h) (yields_field70_2 (by rfl) 49 q (by rfl) (by simp [put_eval, put_size, hsz, h0, h7])) HS5 ?_
  have u0 := cell_blk f1 2 _ rfl
  have u1 := frz_blk f1 2
  refine ButLast.store68 (o := pTx10) 10 (by kernel_rfl) (by rfl) (by rfl) 50 48 (by rfl) q 2 g (I.tops.length + 1) c (by simp [put_eval, put_size, hsz, h0, h7]) (by simp [put_eval, put_size, hsz, h0, h7]) (.slice oa I.tops.length cap) u0 u1 (fun h => absurd rfl h) (ButLast.done (by kernel_rfl) ?_)
  exact NoPanic.normal (hQ g c _ f0 (hat5.elim .inl (fun e => .inr (by omega))) f3)
end Go.Proofs.YtcffomhcmilcpaaGreat

