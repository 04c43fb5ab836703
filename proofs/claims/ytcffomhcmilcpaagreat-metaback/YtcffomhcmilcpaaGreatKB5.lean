/- The rows of topics and of partitions grow by what was read: one region each, over any frame. -/
import Derived.Test.YtcffomhcmilcpaaGreatK13
import Derived.Test.YtcffomhcmilcpaaGreatKB4
namespace Go.Proofs.YtcffomhcmilcpaaGreat
open Go.RowKit Go.Maps
set_option maxRecDepth 100000
set_option linter.unusedSimpArgs false
set_option linter.unusedVariables false
@[reducible] def pPx0 : Oper := { dst := some 26, op := Op.move (Operand.tmp 0), type := 25, pos := "bytes.go:115", after := #[], guard := none }
@[reducible] def pPx1 : Oper := { dst := some 27, op := Op.move (Operand.tmp 0), type := 25, pos := "bytes.go:115", after := #[], guard := none }
@[reducible] def pPx2 : Oper := { dst := some 28, op := Op.nilCheck (Operand.tmp 27), type := 0, pos := "bytes.go:115", after := #[{ on := 1, ground := Ground.data }], guard := none }
@[reducible] def pPx3 : Oper := { dst := some 29, op := Op.fieldAddr 70 (Operand.tmp 28) 3, type := 0, pos := "bytes.go:115", after := #[{ on := 2, ground := Ground.data }], guard := none }
@[reducible] def pPx4 : Oper := { dst := some 30, op := Op.load 30 (Operand.tmp 29), type := 30, pos := "bytes.go:115", after := #[{ on := 3, ground := Ground.data }], guard := none }
@[reducible] def pPx5 : Oper := { dst := some 31, op := Op.load 54 (Operand.tmp 7), type := 54, pos := "bytes.go:115", after := #[], guard := none }
@[reducible] def pPx6 : Oper := { dst := some 32, op := Op.buildSlice 30 1 #[(0, Operand.tmp 31)], type := 30, pos := "bytes.go:115", after := #[{ on := 5, ground := Ground.data }], guard := none }
@[reducible] def pPx7 : Oper := { dst := some 33, op := Op.call ({ callee := Callee.builtin Builtin.append, args := #[Operand.tmp 30, Operand.tmp 32], argTypes := #[30, 30] }), type := 30, pos := "bytes.go:115", after := #[{ on := 4, ground := Ground.data }, { on := 6, ground := Ground.data }], guard := none }
@[reducible] def pPx8 : Oper := { dst := some 34, op := Op.nilCheck (Operand.tmp 26), type := 0, pos := "bytes.go:115", after := #[{ on := 0, ground := Ground.data }, { on := 0, ground := Ground.phase }, { on := 1, ground := Ground.phase }, { on := 2, ground := Ground.phase }, { on := 3, ground := Ground.phase }, { on := 4, ground := Ground.phase }, { on := 5, ground := Ground.phase }, { on := 6, ground := Ground.phase }, { on := 7, ground := Ground.phase }], guard := none }
@[reducible] def pPx9 : Oper := { dst := some 35, op := Op.fieldAddr 70 (Operand.tmp 34) 3, type := 0, pos := "bytes.go:115", after := #[{ on := 8, ground := Ground.data }, { on := 0, ground := Ground.phase }, { on := 1, ground := Ground.phase }, { on := 2, ground := Ground.phase }, { on := 3, ground := Ground.phase }, { on := 4, ground := Ground.phase }, { on := 5, ground := Ground.phase }, { on := 6, ground := Ground.phase }, { on := 7, ground := Ground.phase }], guard := none }
@[reducible] def pPx10 : Oper := { dst := none, op := Op.store 30 (Operand.tmp 35) (Operand.tmp 33), type := 0, pos := "bytes.go:115", after := #[{ on := 9, ground := Ground.data }, { on := 7, ground := Ground.data }, { on := 7, ground := Ground.chain }, { on := 0, ground := Ground.phase }, { on := 1, ground := Ground.phase }, { on := 2, ground := Ground.phase }, { on := 3, ground := Ground.phase }, { on := 4, ground := Ground.phase }, { on := 5, ground := Ground.phase }, { on := 6, ground := Ground.phase }, { on := 7, ground := Ground.phase }], guard := none }
@[reducible] def pPs : Array Oper := #[pPx0, pPx1, pPx2, pPx3, pPx4, pPx5, pPx6, pPx7, pPx8, pPx9, pPx10]
/-- One partition more, its lists apart from the image. -/
theorem ImC.pushP {w w3 : World} {L : Nat → Prop} {q b : Nat} {vt vp ve v2 : Value} {ps : List (Value × Pt)} {I : Im} (h : ImC w L q b vt vp ve ps I) {X : Nat → Prop} {v : Value} {p : Pt} (hs : w.heap.size ≤ w3.heap.size) (hoth : ∀ k, k < w.heap.size → k ≠ q → vp.ownBlock ≠ some k → w3.heap[k]? = w.heap[k]?)
    (hq : w3.heap[q]? = some (.cells #[.int .i64 I.applied, .map (some b), vt, v2, ve] 70)) (hrow : w3.ownsRow 0 54 9 v2 (ps.length + 1) (flatP (ps ++ [(v, p)]))) (hnew : ∀ k, v2.ownBlock = some k → vp.ownBlock = some k ∨ w.heap.size ≤ k)
    (hpm : PartM w3 v p) (hX : InP X v p) (hXl : ∀ k, X k → k < w3.heap.size ∧ ¬ (Own q b vt vp ve k ∨ L k) ∧ v2.ownBlock ≠ some k) (hok : ImOk { I with parts := I.parts ++ [p] }) : ImC w3 (fun k => L k ∨ X k) q b vt v2 ve (ps ++ [(v, p)]) { I with parts := I.parts ++ [p] } := by
  refine ⟨hq, ?_, row_kept h.tops (fun k hk => hoth k (row_lt h.tops hk) (fun e => h.ne_q.1 (by rw [← e]; exact hk)) (h.ne_rows.1 hk)), by rw [List.length_append]; exact hrow, row_kept h.eps (fun k hk => hoth k (row_lt h.eps hk) (fun e => h.ne_q.2.2 (by rw [← e]; exact hk)) (fun e => h.ne_rows.2.2 e hk)), fun x hx => ?_, ?_, fun k hk => ?_, hok⟩
  · obtain ⟨es, clock, hm, r⟩ := h.bmap
    exact ⟨es, clock, (hoth b h.bmap.lt (fun e => h.ne_qb e.symm) h.ne_b.2.1).trans hm, r⟩
  · rcases List.mem_append.1 hx with hx | hx
    · obtain ⟨h1, h2⟩ := h.each x hx
      exact ⟨h1.kept h2 (fun k hk => hoth k (h.lists k hk).1 (fun e => (h.lists k hk).2 (.inl e)) (fun e => (h.lists k hk).2 (.inr (.inr (.inr (.inl e)))))) hs, h2.mono fun k hk => .inl hk⟩
    · simp at hx
      subst hx
      exact ⟨hpm, hX.mono fun k hk => .inr hk⟩
  · simp [h.abs]
  · rcases hk with hk | hk
    · refine ⟨Nat.lt_of_lt_of_le (h.lists k hk).1 hs, ?_⟩
      rintro (e | e | e | e | e)
      · exact (h.lists k hk).2 (.inl e)
      · exact (h.lists k hk).2 (.inr (.inl e))
      · exact (h.lists k hk).2 (.inr (.inr (.inl e)))
      · rcases hnew k e with e | e
        · exact (h.lists k hk).2 (.inr (.inr (.inr (.inl e))))
        · have := (h.lists k hk).1; omega
      · exact (h.lists k hk).2 (.inr (.inr (.inr (.inr e))))
    · obtain ⟨x1, x2, x3⟩ := hXl k hk
      refine ⟨x1, ?_⟩
      rintro (e | e | e | e | e)
      · exact x2 (.inl (.inl e))
      · exact x2 (.inl (.inr (.inl e)))
      · exact x2 (.inl (.inr (.inr (.inl e))))
      · exact x3 e
      · exact x2 (.inl (.inr (.inr (.inr (.inr e)))))
theorem yields_load54 {ops : Array Oper} {o : Oper} {a : Act} {S : World → Prop} (hg : o.guard = none) (x r : Nat) (ho : o.op = .load 54 (.tmp x)) (hx : a.eval (.tmp x) = .pointer (some ⟨r, 0, none⟩)) (c0 c1 c2 c3 c4 c5 c6 c7 c8 : Value) (hS : ∀ w, S w → w.heap[r]? = some (.cells #[c0, c1, c2, c3, c4, c5, c6, c7, c8] 54)) : YieldsIf Tryz.prog ops S o (.agg #[c0, c1, c2, c3, c4, c5, c6, c7, c8]) a := by
  refine .inl ⟨by simp [Region.wanted, hg], fun w hw => ?_⟩
  unfold execOp
  rw [ho]
  have hx' : a.tmps[x]?.getD undef = .pointer (some ⟨r, 0, none⟩) := by simpa [Act.eval] using hx
  have hc := hS w hw
  have g0 := cell_blk hc 0 _ rfl
  have g1 := cell_blk hc 1 _ rfl
  have g2 := cell_blk hc 2 _ rfl
  have g3 := cell_blk hc 3 _ rfl
  have g4 := cell_blk hc 4 _ rfl
  have g5 := cell_blk hc 5 _ rfl
  have g6 := cell_blk hc 6 _ rfl
  have g7 := cell_blk hc 7 _ rfl
  have g8 := cell_blk hc 8 _ rfl
  go_simp
set_option maxHeartbeats 8000000 in
theorem regionP {Q : Exit → Act → World → Prop} (a : Act) {W : World} {L : Nat → Prop} {q b : Nat} {oa : Option Addr} {cap : Nat} {vt ve : Value} {ps : List (Value × Pt)} {I : Im} (h : ImC W L q b vt (.slice oa ps.length cap) ve ps I) (B0 : Nat) (hB0 : ∀ k, Own q b vt (.slice oa ps.length cap) ve k ∨ L k → k < B0) (p : Pt) (x1 x2 x3 x4 : Option Addr) (y1 y2 y3 y4 : Nat) (hp0 : PartM W (.agg #[.int .i64 p.id, .int .i64 p.leader, .int .i64 p.epoch, .int .i64 p.ver, .slice x1 p.isr.length y1, .slice x2 p.reps.length y2, .slice x3 p.add.length y3, .slice x4 p.rem.length y4, .int .i64 p.min]) p) (hp2 : InP (fun k => B0 ≤ k) (.agg #[.int .i64 p.id, .int .i64 p.leader, .int .i64 p.epoch, .int .i64 p.ver, .slice x1 p.isr.length y1, .slice x2 p.reps.length y2, .slice x3 p.add.length y3, .slice x4 p.rem.length y4, .int .i64 p.min]) p) (xt : Nat) (hxt : W.heap[xt]? = some (.cells #[.int .i64 p.id, .int .i64 p.leader, .int .i64 p.epoch, .int .i64 p.ver, .slice x1 p.isr.length y1, .slice x2 p.reps.length y2, .slice x3 p.add.length y3, .slice x4 p.rem.length y4, .int .i64 p.min] 54)) (hxo : ¬ Own q b vt (.slice oa ps.length cap) ve xt) (hok : ImOk { I with parts := I.parts ++ [p] })
    (h0 : a.eval (.tmp 0) = .pointer (some ⟨q, 0, none⟩)) (h7 : a.eval (.tmp 7) = .pointer (some ⟨xt, 0, none⟩)) (hsz : a.tmps.size = 37)
    (hQ : ∀ (g c : Nat) (W3 : World), ImC W3 (fun j => L j ∨ (B0 ≤ j ∧ j < W.heap.size)) q b vt (.slice (some ⟨g, 0, none⟩) (ps.length + 1) c) ve (ps ++ [(.agg #[.int .i64 p.id, .int .i64 p.leader, .int .i64 p.epoch, .int .i64 p.ver, .slice x1 p.isr.length y1, .slice x2 p.reps.length y2, .slice x3 p.add.length y3, .slice x4 p.rem.length y4, .int .i64 p.min], p)]) { I with parts := I.parts ++ [p] } → ((Value.slice oa ps.length cap).ownBlock = some g ∨ W.heap.size ≤ g) → Keeps (Own q b vt (.slice oa ps.length cap) ve) W W3 → Q .normal (((((((((((a.put (some 26) (.pointer (some ⟨q, 0, none⟩))).put (some 27) (.pointer (some ⟨q, 0, none⟩))).put (some 28) (.pointer (some ⟨q, 0, none⟩))).put (some 29) (.pointer (some ⟨q, 3, none⟩))).put (some 30) (.slice oa ps.length cap)).put (some 31) (.agg #[.int .i64 p.id, .int .i64 p.leader, .int .i64 p.epoch, .int .i64 p.ver, .slice x1 p.isr.length y1, .slice x2 p.reps.length y2, .slice x3 p.add.length y3, .slice x4 p.rem.length y4, .int .i64 p.min])).put (some 32) (.slice (some ⟨W.heap.size, 0, none⟩) 1 1)).put (some 33) (.slice (some ⟨g, 0, none⟩) (ps.length + 1) c)).put (some 34) (.pointer (some ⟨q, 0, none⟩))).put (some 35) (.pointer (some ⟨q, 3, none⟩))).put none undef) W3) :
    (Code.region 10 pPs true).wp Tryz.prog Q a W := by
  obtain ⟨j0, hj0, hz0, hz1, hz2⟩ := info54
  have hfew : ps.length ≤ 16 := by have := h.plen; have := h.ok.few; omega
  have hqlt : q < W.heap.size := h.lt (.inl rfl)
  have hxlt : xt < W.heap.size := (Array.getElem?_eq_some_iff.1 hxt).1
  have hbA : Below W.heap.size W ((W.alloc (.cells #[.int .i64 p.id, .int .i64 p.leader, .int .i64 p.epoch, .int .i64 p.ver, .slice x1 p.isr.length y1, .slice x2 p.reps.length y2, .slice x3 p.add.length y3, .slice x4 p.rem.length y4, .int .i64 p.min] 54)).drew) := ((Below.refl _ _).alloc (Nat.le_refl _) _).drew
  have HROW : ((W.alloc (.cells #[.int .i64 p.id, .int .i64 p.leader, .int .i64 p.epoch, .int .i64 p.ver, .slice x1 p.isr.length y1, .slice x2 p.reps.length y2, .slice x3 p.add.length y3, .slice x4 p.rem.length y4, .int .i64 p.min] 54)).drew).ownsRow 0 54 9 (.slice oa ps.length cap) ps.length (flatP ps) := (h.under hbA).parts
  have HNEW : ∀ j u, ([.int .i64 p.id, .int .i64 p.leader, .int .i64 p.epoch, .int .i64 p.ver, .slice x1 p.isr.length y1, .slice x2 p.reps.length y2, .slice x3 p.add.length y3, .slice x4 p.rem.length y4, .int .i64 p.min] : List Value)[j]? = some u → ((W.alloc (.cells #[.int .i64 p.id, .int .i64 p.leader, .int .i64 p.epoch, .int .i64 p.ver, .slice x1 p.isr.length y1, .slice x2 p.reps.length y2, .slice x3 p.add.length y3, .slice x4 p.rem.length y4, .int .i64 p.min] 54)).drew).cell? ((⟨W.heap.size, 0, none⟩ : Addr).add j) = some u := fun j u hu => by
    rw [add_at, Nat.zero_add]
    refine cell_blk (w := ((W.alloc (.cells #[.int .i64 p.id, .int .i64 p.leader, .int .i64 p.epoch, .int .i64 p.ver, .slice x1 p.isr.length y1, .slice x2 p.reps.length y2, .slice x3 p.add.length y3, .slice x4 p.rem.length y4, .int .i64 p.min] 54)).drew)) (heap_alloc_new W (.cells #[.int .i64 p.id, .int .i64 p.leader, .int .i64 p.epoch, .int .i64 p.ver, .slice x1 p.isr.length y1, .slice x2 p.reps.length y2, .slice x3 p.add.length y3, .slice x4 p.rem.length y4, .int .i64 p.min] 54)) j u ?_
    rw [← hu]
    simp
  have HSZ : ((W.alloc (.cells #[.int .i64 p.id, .int .i64 p.leader, .int .i64 p.epoch, .int .i64 p.ver, .slice x1 p.isr.length y1, .slice x2 p.reps.length y2, .slice x3 p.add.length y3, .slice x4 p.rem.length y4, .int .i64 p.min] 54)).drew).heap.size = W.heap.size + 1 := by simp
  have HG : ∀ (w5 : World) (g c : Nat), w5.ownsRow 0 54 9 (.slice (some ⟨g, 0, none⟩) (ps.length + 1) c) (ps.length + 1) (flatP ps ++ [.int .i64 p.id, .int .i64 p.leader, .int .i64 p.epoch, .int .i64 p.ver, .slice x1 p.isr.length y1, .slice x2 p.reps.length y2, .slice x3 p.add.length y3, .slice x4 p.rem.length y4, .int .i64 p.min]) → ((W.alloc (.cells #[.int .i64 p.id, .int .i64 p.leader, .int .i64 p.epoch, .int .i64 p.ver, .slice x1 p.isr.length y1, .slice x2 p.reps.length y2, .slice x3 p.add.length y3, .slice x4 p.rem.length y4, .int .i64 p.min] 54)).drew).grownBy w5 (Value.slice oa ps.length cap).ownBlock → ((Value.slice oa ps.length cap).ownBlock = some g ∨ g = W.heap.size + 1) →
      w5.heap[q]? = some (.cells #[.int .i64 I.applied, .map (some b), vt, .slice oa ps.length cap, ve] 70) ∧ w5.heap[xt]? = some (.cells #[.int .i64 p.id, .int .i64 p.leader, .int .i64 p.epoch, .int .i64 p.ver, .slice x1 p.isr.length y1, .slice x2 p.reps.length y2, .slice x3 p.add.length y3, .slice x4 p.rem.length y4, .int .i64 p.min] 54) ∧ ImC (w5.setCell ⟨q, 3, none⟩ (.slice (some ⟨g, 0, none⟩) (ps.length + 1) c)) (fun j => L j ∨ (B0 ≤ j ∧ j < W.heap.size)) q b vt (.slice (some ⟨g, 0, none⟩) (ps.length + 1) c) ve (ps ++ [(.agg #[.int .i64 p.id, .int .i64 p.leader, .int .i64 p.epoch, .int .i64 p.ver, .slice x1 p.isr.length y1, .slice x2 p.reps.length y2, .slice x3 p.add.length y3, .slice x4 p.rem.length y4, .int .i64 p.min], p)]) { I with parts := I.parts ++ [p] } ∧ Keeps (Own q b vt (.slice oa ps.length cap) ve) W (w5.setCell ⟨q, 3, none⟩ (.slice (some ⟨g, 0, none⟩) (ps.length + 1) c)) := fun w5 g c hown hg hat => by
    have hs5 := hg.size
    have hblk : ∀ j, j < W.heap.size → (Value.slice oa ps.length cap).ownBlock ≠ some j → w5.heap[j]? = W.heap[j]? := fun j hj hne => by
      rw [hg.block j (by rw [HSZ]; omega) (fun e => hne e.symm), hbA.block j hj]
    have hqc := (hblk q hqlt h.ne_q.2.1).trans h.cells
    have hvl : ∀ j, (Value.slice oa ps.length cap).ownBlock = some j → j < B0 := fun j hj => hB0 j (.inl (.inr (.inr (.inr (.inl hj)))))
    have hnew : ∀ j, (Value.slice (some ⟨g, 0, none⟩) (ps.length + 1) c).ownBlock = some j → (Value.slice oa ps.length cap).ownBlock = some j ∨ W.heap.size + 1 ≤ j := fun j hj => by
      cases hj
      rcases hat with e | e
      · exact .inl e
      · exact .inr (by show W.heap.size + 1 ≤ g; omega)
    have hqB : q < B0 := hB0 q (.inl (.inl rfl))
    have hoth : ∀ j, j < W.heap.size → j ≠ q → (Value.slice oa ps.length cap).ownBlock ≠ some j → (w5.setCell ⟨q, 3, none⟩ (.slice (some ⟨g, 0, none⟩) (ps.length + 1) c)).heap[j]? = W.heap[j]? := fun j hj hjq hje => by
      rw [Below.heap_setCell _ _ _ _ hjq, hblk j hj hje]
    refine ⟨hqc, (hblk xt hxlt (fun e => hxo (.inr (.inr (.inr (.inl e)))))).trans hxt, ?_, ⟨hg.os, hg.tape, hg.output, by simp; omega, fun j hj hS => hoth j hj (fun e => hS (.inl e)) (fun e => hS (.inr (.inr (.inr (.inl e)))))⟩⟩
    have hqv : (Value.slice (some ⟨g, 0, none⟩) (ps.length + 1) c).ownBlock ≠ some q := fun e => by
      rcases hnew q e with e | e
      · exact h.ne_q.2.1 e
      · omega
    have h5 := row_kept hown (w1 := w5.setCell ⟨q, 3, none⟩ (.slice (some ⟨g, 0, none⟩) (ps.length + 1) c)) (fun j hj => Below.heap_setCell _ _ _ _ (fun e => hqv (by rw [hj, e])))
    have hpm : PartM (w5.setCell ⟨q, 3, none⟩ (.slice (some ⟨g, 0, none⟩) (ps.length + 1) c)) (.agg #[.int .i64 p.id, .int .i64 p.leader, .int .i64 p.epoch, .int .i64 p.ver, .slice x1 p.isr.length y1, .slice x2 p.reps.length y2, .slice x3 p.add.length y3, .slice x4 p.rem.length y4, .int .i64 p.min]) p := hp0.kept (hp2.and hp0.old) (fun j hj => hoth j hj.2 (by omega) (fun e => by have := hvl j e; omega)) (by simp; omega)
    exact h.pushP (by simp; omega) hoth (set_box hqc) (by rw [flatP_append]; exact h5) (fun j hj => (hnew j hj).imp (fun e => e) (fun e => by omega)) hpm (hp2.and hp0.old) (fun j hj => ⟨by simp; omega, fun e => by have := hB0 j e; omega, fun e => by
      rcases hnew j e with e | e
      · have := hvl j e; omega
      · omega⟩) hok
  have HS0 : W.drew.heap[q]? = some (.cells #[.int .i64 I.applied, .map (some b), vt, .slice oa ps.length cap, ve] 70) ∧ W.drew.heap[xt]? = some (.cells #[.int .i64 p.id, .int .i64 p.leader, .int .i64 p.epoch, .int .i64 p.ver, .slice x1 p.isr.length y1, .slice x2 p.reps.length y2, .slice x3 p.add.length y3, .slice x4 p.rem.length y4, .int .i64 p.min] 54) := ⟨h.cells, hxt⟩
  have HDD : W.drew.alloc (.cells #[.int .i64 p.id, .int .i64 p.leader, .int .i64 p.epoch, .int .i64 p.ver, .slice x1 p.isr.length y1, .slice x2 p.reps.length y2, .slice x3 p.add.length y3, .slice x4 p.rem.length y4, .int .i64 p.min] 54) = ((W.alloc (.cells #[.int .i64 p.id, .int .i64 p.leader, .int .i64 p.epoch, .int .i64 p.ver, .slice x1 p.isr.length y1, .slice x2 p.reps.length y2, .slice x3 p.add.length y3, .slice x4 p.rem.length y4, .int .i64 p.min] 54)).drew) := rfl
  have HS1 : (W.drew.alloc (.cells #[.int .i64 p.id, .int .i64 p.leader, .int .i64 p.epoch, .int .i64 p.ver, .slice x1 p.isr.length y1, .slice x2 p.reps.length y2, .slice x3 p.add.length y3, .slice x4 p.rem.length y4, .int .i64 p.min] 54)).heap[q]? = some (.cells #[.int .i64 I.applied, .map (some b), vt, .slice oa ps.length cap, ve] 70) ∧ (W.drew.alloc (.cells #[.int .i64 p.id, .int .i64 p.leader, .int .i64 p.epoch, .int .i64 p.ver, .slice x1 p.isr.length y1, .slice x2 p.reps.length y2, .slice x3 p.add.length y3, .slice x4 p.rem.length y4, .int .i64 p.min] 54)).heap[xt]? = some (.cells #[.int .i64 p.id, .int .i64 p.leader, .int .i64 p.epoch, .int .i64 p.ver, .slice x1 p.isr.length y1, .slice x2 p.reps.length y2, .slice x3 p.add.length y3, .slice x4 p.rem.length y4, .int .i64 p.min] 54) := ⟨(hbA.block q hqlt).trans h.cells, (hbA.block xt hxlt).trans hxt⟩
  clear hbA h hxt hxo hok hp0 hp2 hB0
  generalize hFM : flatP ps = FM at *
  refine wp_region_noPanic ?_
  refine region_last (fun V => V.heap[q]? = some (.cells #[.int .i64 I.applied, .map (some b), vt, .slice oa ps.length cap, ve] 70) ∧ V.heap[xt]? = some (.cells #[.int .i64 p.id, .int .i64 p.leader, .int .i64 p.epoch, .int .i64 p.ver, .slice x1 p.isr.length y1, .slice x2 p.reps.length y2, .slice x3 p.add.length y3, .slice x4 p.rem.length y4, .int .i64 p.min] 54)) 10 (by kernel_rfl) ?_
  refine ButLast.take (oi := pPx0) 0 (.pointer (some ⟨q, 0, none⟩)) [9, 8] (by rfl) (by kernel_rfl) (by kernel_rfl) (by kernel_rfl) (by kernel_rfl) (by kernel_rfl) (fun c a w h => h) (yields_move (by rfl) 0 (by rfl) h0) HS0 ?_
  refine ButLast.take (oi := pPx1) 1 (.pointer (some ⟨q, 0, none⟩)) [7, 4, 3, 2] (by rfl) (by kernel_rfl) (by kernel_rfl) (by kernel_rfl) (by kernel_rfl) (by kernel_rfl) (fun c a w h => h) (yields_move (by rfl) 0 (by rfl) (by simp [put_eval, put_size, hsz, h0, h7])) HS0 ?_
  refine ButLast.take (oi := pPx2) 2 (.pointer (some ⟨q, 0, none⟩)) [7, 4, 3] (by rfl) (by kernel_rfl) (by kernel_rfl) (by kernel_rfl) (by kernel_rfl) (by kernel_rfl) (fun c a w h => h) (yields_nil (by rfl) 27 q (by rfl) (by simp [put_eval, put_size, hsz, h0, h7])) HS0 ?_
  refine ButLast.take (oi := pPx3) 3 (.pointer (some ⟨q, 3, none⟩)) [7, 4] (by rfl) (by kernel_rfl) (by kernel_rfl) (by kernel_rfl) (by kernel_rfl) (by kernel_rfl) (fun c a w h => h) (yields_field70_3 (by rfl) 28 q (by rfl) (by simp [put_eval, put_size, hsz, h0, h7])) HS0 ?_
  refine ButLast.take (oi := pPx4) 4 (.slice oa ps.length cap) [7] (by rfl) (by kernel_rfl) (by kernel_rfl) (by kernel_rfl) (by kernel_rfl) (by kernel_rfl) (fun c a w h => h) (yields_load30 (by rfl) 29 q 3 (by rfl) (by simp [put_eval, put_size, hsz, h0, h7]) _ (fun V hV => cell_blk hV.1 3 _ rfl)) HS0 ?_
  refine ButLast.take (oi := pPx5) 5 (.agg #[.int .i64 p.id, .int .i64 p.leader, .int .i64 p.epoch, .int .i64 p.ver, .slice x1 p.isr.length y1, .slice x2 p.reps.length y2, .slice x3 p.add.length y3, .slice x4 p.rem.length y4, .int .i64 p.min]) [7, 6] (by rfl) (by kernel_rfl) (by kernel_rfl) (by kernel_rfl) (by kernel_rfl) (by kernel_rfl) (fun c a w h => h) (yields_load54 (by rfl) 7 xt (by rfl) (by simp [put_eval, put_size, hsz, h0, h7]) _ _ _ _ _ _ _ _ _ (fun V hV => hV.2)) HS0 ?_
  refine ButLast.one (o := pPx6) 6 (by kernel_rfl) (by rfl) (fun K hK => ?_)
  refine step_one30 (by rfl) 31 (by rfl) p.id p.leader p.epoch p.ver p.min x1 x2 x3 x4 p.isr.length p.reps.length p.add.length p.rem.length y1 y2 y3 y4 (by simp [put_eval, put_size, hsz, h0, h7]) ?_
  refine hK.out _ _ (fun _ => HS1) ?_
  clear hK K
  rw [HDD]
  refine ButLast.one (o := pPx7) 7 (by kernel_rfl) (by rfl) (fun K hK => ?_)
  refine step_append_lies _ (by rfl) (.tmp 30) (.tmp 32) 30 (by rfl) 0 54 j0 _ 9 136 Tryz.underlying30 hj0 hz0 hz1 hz2 rfl (by decide) (.slice oa ps.length cap) ps.length FM (by simp [put_eval, put_size, hsz, h0, h7]) HROW ⟨W.heap.size, 0, none⟩ 1 1 [.int .i64 p.id, .int .i64 p.leader, .int .i64 p.epoch, .int .i64 p.ver, .slice x1 p.isr.length y1, .slice x2 p.reps.length y2, .slice x3 p.add.length y3, .slice x4 p.rem.length y4, .int .i64 p.min] (by simp [put_eval, put_size, hsz, h0, h7]) rfl HNEW (nine_one _ _ _ _ _ _ _ _ _) (by decide) (by unfold maxLen; omega) (by omega) (Nat.zero_le _) (W.heap.size + 1) HSZ ?_
  intro g c w5 hown5 hg5 hat5 hlt5
  obtain ⟨f1, f2, f0, f3⟩ := HG w5 g c hown5 hg5 hat5
  have HS5 : w5.heap[q]? = some (.cells #[.int .i64 I.applied, .map (some b), vt, .slice oa ps.length cap, ve] 70) ∧ w5.heap[xt]? = some (.cells #[.int .i64 p.id, .int .i64 p.leader, .int .i64 p.epoch, .int .i64 p.ver, .slice x1 p.isr.length y1, .slice x2 p.reps.length y2, .slice x3 p.add.length y3, .slice x4 p.rem.length y4, .int .i64 p.min] 54) := ⟨f1, f2⟩
  refine hK.out _ _ (fun _ => HS5) ?_
  clear hK K
  refine ButLast.take (oi := pPx8) 8 (.pointer (some ⟨q, 0, none⟩)) [9] (by rfl) (by kernel_rfl) (by kernel_rfl) (by kernel_rfl) (by kernel_rfl) (by kernel_rfl) (fun c a w h => h) (yields_nil (by rfl) 26 q (by rfl) (by simp [put_eval, put_size, hsz, h0, h7])) HS5 ?_
  refine ButLast.take (oi := pPx9) 9 (.pointer (some ⟨q, 3, none⟩)) [] (by rfl) (by kernel_rfl) (by kernel_rfl) (by kernel_rfl) (by kernel_rfl) (by kernel_rfl) (fun c a w h => h) (yields_field70_3 (by rfl) 34 q (by rfl) (by simp [put_eval, put_size, hsz, h0, h7])) HS5 ?_
  have u0 := cell_blk f1 3 _ rfl
  have u1 := frz_blk f1 3
  refine ButLast.store30 (o := pPx10) 10 (by kernel_rfl) (by rfl) (by rfl) 35 33 (by rfl) q 3 g (ps.length + 1) c (by simp [put_eval, put_size, hsz, h0, h7]) (by simp [put_eval, put_size, hsz, h0, h7]) (.slice oa ps.length cap) u0 u1 (fun h => absurd rfl h) (ButLast.done (by kernel_rfl) ?_)
  exact NoPanic.normal (hQ g c _ f0 (hat5.elim .inl (fun e => .inr (by omega))) f3)
end Go.Proofs.YtcffomhcmilcpaaGreat

