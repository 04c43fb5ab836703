/- The row of partitions grows by a new one: one region, over any frame. -/
import Derived.Test.YtcffomhcmilcpaaGreatMb
import Derived.Test.YtcffomhcmilcpaaGreatA16
import Derived.Test.YtcffomhcmilcpaaGreatA4
import Derived.Test.YtcffomhcmilcpaaGreatA6
namespace Go.Proofs.YtcffomhcmilcpaaGreat
open Go.RowKit Go.Maps
set_option maxRecDepth 100000
set_option linter.unusedSimpArgs false
set_option linter.unusedVariables false
@[reducible] def p13x0 : Oper := { dst := some 90, op := Op.move (Operand.tmp 0), type := 25, pos := "kinds.go:115", after := #[], guard := none }
@[reducible] def p13x1 : Oper := { dst := some 91, op := Op.move (Operand.tmp 0), type := 25, pos := "kinds.go:115", after := #[], guard := none }
@[reducible] def p13x2 : Oper := { dst := some 92, op := Op.nilCheck (Operand.tmp 91), type := 0, pos := "kinds.go:115", after := #[{ on := 1, ground := Ground.data }], guard := none }
@[reducible] def p13x3 : Oper := { dst := some 93, op := Op.fieldAddr 70 (Operand.tmp 92) 3, type := 0, pos := "kinds.go:115", after := #[{ on := 2, ground := Ground.data }], guard := none }
@[reducible] def p13x4 : Oper := { dst := some 94, op := Op.load 30 (Operand.tmp 93), type := 30, pos := "kinds.go:115", after := #[{ on := 3, ground := Ground.data }], guard := none }
@[reducible] def p13x5 : Oper := { dst := some 95, op := Op.move (Operand.tmp 9), type := 3, pos := "kinds.go:115", after := #[], guard := none }
@[reducible] def p13x6 : Oper := { dst := some 96, op := Op.move (Operand.tmp 6), type := 23, pos := "kinds.go:115", after := #[], guard := none }
@[reducible] def p13x7 : Oper := { dst := some 97, op := Op.move (Operand.tmp 8), type := 3, pos := "kinds.go:115", after := #[], guard := none }
@[reducible] def p13x8 : Oper := { dst := some 98, op := Op.fieldAddr 34 (Operand.tmp 3) 2, type := 0, pos := "kinds.go:115", after := #[], guard := none }
@[reducible] def p13x9 : Oper := { dst := some 99, op := Op.load 3 (Operand.tmp 98), type := 3, pos := "kinds.go:115", after := #[{ on := 8, ground := Ground.data }], guard := none }
@[reducible] def p13x10 : Oper := { dst := some 100, op := Op.call ({ callee := Callee.value (Operand.func 121), args := #[Operand.tmp 96, Operand.tmp 97, Operand.tmp 99], argTypes := #[23, 3, 3] }), type := 23, pos := "kinds.go:115", after := #[{ on := 6, ground := Ground.data }, { on := 7, ground := Ground.data }, { on := 9, ground := Ground.data }], guard := none }
@[reducible] def p13x11 : Oper := { dst := some 101, op := Op.fieldAddr 34 (Operand.tmp 3) 3, type := 0, pos := "kinds.go:115", after := #[], guard := none }
@[reducible] def p13x12 : Oper := { dst := some 102, op := Op.load 3 (Operand.tmp 101), type := 3, pos := "kinds.go:115", after := #[{ on := 11, ground := Ground.data }], guard := none }
@[reducible] def p13x13 : Oper := { dst := some 103, op := Op.call ({ callee := Callee.value (Operand.func 120), args := #[Operand.tmp 95, Operand.tmp 100, Operand.tmp 102], argTypes := #[3, 23, 3] }), type := 54, pos := "kinds.go:115", after := #[{ on := 5, ground := Ground.data }, { on := 10, ground := Ground.data }, { on := 12, ground := Ground.data }, { on := 10, ground := Ground.chain }], guard := none }
@[reducible] def p13x14 : Oper := { dst := some 104, op := Op.buildSlice 30 1 #[(0, Operand.tmp 103)], type := 30, pos := "kinds.go:115", after := #[{ on := 13, ground := Ground.data }], guard := none }
@[reducible] def p13x15 : Oper := { dst := some 105, op := Op.call ({ callee := Callee.builtin Builtin.append, args := #[Operand.tmp 94, Operand.tmp 104], argTypes := #[30, 30] }), type := 30, pos := "kinds.go:115", after := #[{ on := 4, ground := Ground.data }, { on := 14, ground := Ground.data }, { on := 13, ground := Ground.chain }], guard := none }
@[reducible] def p13x16 : Oper := { dst := some 106, op := Op.nilCheck (Operand.tmp 90), type := 0, pos := "kinds.go:115", after := #[{ on := 0, ground := Ground.data }, { on := 0, ground := Ground.phase }, { on := 1, ground := Ground.phase }, { on := 2, ground := Ground.phase }, { on := 3, ground := Ground.phase }, { on := 4, ground := Ground.phase }, { on := 5, ground := Ground.phase }, { on := 6, ground := Ground.phase }, { on := 7, ground := Ground.phase }, { on := 8, ground := Ground.phase }, { on := 9, ground := Ground.phase }, { on := 10, ground := Ground.phase }, { on := 11, ground := Ground.phase }, { on := 12, ground := Ground.phase }, { on := 13, ground := Ground.phase }, { on := 14, ground := Ground.phase }, { on := 15, ground := Ground.phase }], guard := none }
@[reducible] def p13x17 : Oper := { dst := some 107, op := Op.fieldAddr 70 (Operand.tmp 106) 3, type := 0, pos := "kinds.go:115", after := #[{ on := 16, ground := Ground.data }, { on := 0, ground := Ground.phase }, { on := 1, ground := Ground.phase }, { on := 2, ground := Ground.phase }, { on := 3, ground := Ground.phase }, { on := 4, ground := Ground.phase }, { on := 5, ground := Ground.phase }, { on := 6, ground := Ground.phase }, { on := 7, ground := Ground.phase }, { on := 8, ground := Ground.phase }, { on := 9, ground := Ground.phase }, { on := 10, ground := Ground.phase }, { on := 11, ground := Ground.phase }, { on := 12, ground := Ground.phase }, { on := 13, ground := Ground.phase }, { on := 14, ground := Ground.phase }, { on := 15, ground := Ground.phase }], guard := none }
@[reducible] def p13x18 : Oper := { dst := none, op := Op.store 30 (Operand.tmp 107) (Operand.tmp 105), type := 0, pos := "kinds.go:115", after := #[{ on := 17, ground := Ground.data }, { on := 15, ground := Ground.data }, { on := 15, ground := Ground.chain }, { on := 0, ground := Ground.phase }, { on := 1, ground := Ground.phase }, { on := 2, ground := Ground.phase }, { on := 3, ground := Ground.phase }, { on := 4, ground := Ground.phase }, { on := 5, ground := Ground.phase }, { on := 6, ground := Ground.phase }, { on := 7, ground := Ground.phase }, { on := 8, ground := Ground.phase }, { on := 9, ground := Ground.phase }, { on := 10, ground := Ground.phase }, { on := 11, ground := Ground.phase }, { on := 12, ground := Ground.phase }, { on := 13, ground := Ground.phase }, { on := 14, ground := Ground.phase }, { on := 15, ground := Ground.phase }], guard := none }
@[reducible] def ps13 : Array Oper := #[p13x0, p13x1, p13x2, p13x3, p13x4, p13x5, p13x6, p13x7, p13x8, p13x9, p13x10, p13x11, p13x12, p13x13, p13x14, p13x15, p13x16, p13x17, p13x18]
theorem info54 : ∃ i, Tryz.prog.info? 54 = some i ∧ i.zero = some (.agg #[.int .i64 0, .int .i64 0, .int .i64 0, .int .i64 0, .slice none 0 0, .slice none 0 0, .slice none 0 0, .slice none 0 0, .int .i64 0]) ∧ i.size = 9 ∧ i.bytes = 136 := ⟨_, rfl, rfl, rfl, rfl⟩
theorem nine_one (p : Pt) (x1 x2 x3 x4 : Option Addr) (y1 y2 y3 y4 : Nat) : ∀ u ∈ ([.int .i64 p.id, .int .i64 p.leader, .int .i64 p.epoch, .int .i64 p.ver, .slice x1 p.isr.length y1, .slice x2 p.reps.length y2, .slice x3 p.add.length y3, .slice x4 p.rem.length y4, .int .i64 p.min] : List Value), u.oneCell' = true := fun u hu => by
  simp at hu
  rcases hu with rfl | rfl | rfl | rfl | rfl | rfl | rfl | rfl | rfl <;> rfl
set_option maxHeartbeats 8000000 in
theorem region13 {Q : Exit → Act → World → Prop} (a : Act) {W : World} {L : Nat → Prop} {q b : Nat} {oa : Option Addr} {cap : Nat} {vt ve : Value} {ps : List (Value × Pt)} {I : Im} (h : ImC W L q b vt (.slice oa ps.length cap) ve ps I) (x nb k : Nat) (rk ra rc rd id : Int) (rn rt : ByteArray) (la : Option Addr) (ll lc : Nat) (hx : W.heap[x]? = some (.cells #[.int .i64 rk, .int .i64 ra, .int .i64 (nb : Int), .int .i64 rc, .int .i64 rd, .string rn, .string rt, .slice la ll lc] 34)) (hxo : ¬ Own q b vt (.slice oa ps.length cap) ve x)
    (ua : Option Addr) (uc : Nat) (up : List Int) (hup : IL W (.slice ua up.length uc) up) (hu0 : 0 < up.length) (hu1 : up.length ≤ 100) (hk : k ≤ 100) (hn0 : 0 < nb) (hn1 : nb ≤ 100) (hid' : I64 id) (hrc : I64 rc) (hok : ImOk { I with parts := I.parts ++ [newP id (roundL up k nb) rc] })
    (h0 : a.eval (.tmp 0) = .pointer (some ⟨q, 0, none⟩)) (h3 : a.eval (.tmp 3) = .pointer (some ⟨x, 0, none⟩)) (h6 : a.eval (.tmp 6) = .slice ua up.length uc) (h8 : a.eval (.tmp 8) = .int .i64 (k : Int)) (h9 : a.eval (.tmp 9) = .int .i64 id) (hsz : a.tmps.size = 111)
    (hQ : ∀ (g c : Nat) (W3 : World) (L' : Nat → Prop) (ps' : List (Value × Pt)) (LV PV BV AV : Value), ImC W3 L' q b vt (.slice (some ⟨g, 0, none⟩) (ps.length + 1) c) ve ps' { I with parts := I.parts ++ [newP id (roundL up k nb) rc] } → (∀ j, L' j → L j ∨ W.heap.size ≤ j) → ((Value.slice oa ps.length cap).ownBlock = some g ∨ W.heap.size ≤ g) → Keeps (Own q b vt (.slice oa ps.length cap) ve) W W3 → Q .normal (((((((((((((((((((a.put (some 90) (.pointer (some ⟨q, 0, none⟩))).put (some 91) (.pointer (some ⟨q, 0, none⟩))).put (some 92) (.pointer (some ⟨q, 0, none⟩))).put (some 93) (.pointer (some ⟨q, 3, none⟩))).put (some 94) (.slice oa ps.length cap)).put (some 95) (.int .i64 id)).put (some 96) (.slice ua up.length uc)).put (some 97) (.int .i64 (k : Int))).put (some 98) (.pointer (some ⟨x, 2, none⟩))).put (some 99) (.int .i64 (nb : Int))).put (some 101) (.pointer (some ⟨x, 3, none⟩))).put (some 102) (.int .i64 rc)).put (some 100) (LV)).put (some 103) (PV)).put (some 104) (BV)).put (some 105) (AV)).put (some 106) (.pointer (some ⟨q, 0, none⟩))).put (some 107) (.pointer (some ⟨q, 3, none⟩))).put none undef) W3) :
    (Code.region 13 ps13 true).wp Tryz.prog Q a W := by
  obtain ⟨j0, hj0, hz0, hz1, hz2⟩ := info54
  have hfew : ps.length ≤ 16 := by have := h.plen; have := h.ok.few; omega
  have hqlt : q < W.heap.size := h.lt (.inl rfl)
  have hxlt : x < W.heap.size := (Array.getElem?_eq_some_iff.1 hx).1
  have HS0 : W.drew.heap[q]? = some (.cells #[.int .i64 I.applied, .map (some b), vt, .slice oa ps.length cap, ve] 70) ∧ W.drew.heap[x]? = some (.cells #[.int .i64 rk, .int .i64 ra, .int .i64 (nb : Int), .int .i64 rc, .int .i64 rd, .string rn, .string rt, .slice la ll lc] 34) := ⟨h.cells, hx⟩
  have HSB : ∀ V, Below W.heap.size W V → V.heap[q]? = some (.cells #[.int .i64 I.applied, .map (some b), vt, .slice oa ps.length cap, ve] 70) ∧ V.heap[x]? = some (.cells #[.int .i64 rk, .int .i64 ra, .int .i64 (nb : Int), .int .i64 rc, .int .i64 rd, .string rn, .string rt, .slice la ll lc] 34) := fun V hV => ⟨(hV.block q hqlt).trans h.cells, (hV.block x hxlt).trans hx⟩
  refine wp_region_noPanic ?_
  refine region_last (fun V => V.heap[q]? = some (.cells #[.int .i64 I.applied, .map (some b), vt, .slice oa ps.length cap, ve] 70) ∧ V.heap[x]? = some (.cells #[.int .i64 rk, .int .i64 ra, .int .i64 (nb : Int), .int .i64 rc, .int .i64 rd, .string rn, .string rt, .slice la ll lc] 34)) 18 (by kernel_rfl) ?_
  refine ButLast.take (oi := p13x0) 0 (.pointer (some ⟨q, 0, none⟩)) [17, 16] (by rfl) (by kernel_rfl) (by kernel_rfl) (by kernel_rfl) (by kernel_rfl) (by kernel_rfl) (fun c a w h => h) (yields_move (by rfl) 0 (by rfl) h0) HS0 ?_
  refine ButLast.take (oi := p13x1) 1 (.pointer (some ⟨q, 0, none⟩)) [15, 4, 3, 2] (by rfl) (by kernel_rfl) (by kernel_rfl) (by kernel_rfl) (by kernel_rfl) (by kernel_rfl) (fun c a w h => h) (yields_move (by rfl) 0 (by rfl) (by simp [put_eval, put_size, hsz, h0, h3, h6, h8, h9])) HS0 ?_
  refine ButLast.take (oi := p13x2) 2 (.pointer (some ⟨q, 0, none⟩)) [15, 4, 3] (by rfl) (by kernel_rfl) (by kernel_rfl) (by kernel_rfl) (by kernel_rfl) (by kernel_rfl) (fun c a w h => h) (yields_nil (by rfl) 91 q (by rfl) (by simp [put_eval, put_size, hsz, h0, h3, h6, h8, h9])) HS0 ?_
  refine ButLast.take (oi := p13x3) 3 (.pointer (some ⟨q, 3, none⟩)) [15, 4] (by rfl) (by kernel_rfl) (by kernel_rfl) (by kernel_rfl) (by kernel_rfl) (by kernel_rfl) (fun c a w h => h) (yields_field70_3 (by rfl) 92 q (by rfl) (by simp [put_eval, put_size, hsz, h0, h3, h6, h8, h9])) HS0 ?_
  refine ButLast.take (oi := p13x4) 4 (.slice oa ps.length cap) [15] (by rfl) (by kernel_rfl) (by kernel_rfl) (by kernel_rfl) (by kernel_rfl) (by kernel_rfl) (fun c a w h => h) (yields_load30 (by rfl) 93 q 3 (by rfl) (by simp [put_eval, put_size, hsz, h0, h3, h6, h8, h9]) _ (fun V hV => cell_blk hV.1 3 _ rfl)) HS0 ?_
  refine ButLast.take (oi := p13x5) 5 (.int .i64 id) [15, 14, 13] (by rfl) (by kernel_rfl) (by kernel_rfl) (by kernel_rfl) (by kernel_rfl) (by kernel_rfl) (fun c a w h => h) (yields_move (by rfl) 9 (by rfl) (by simp [put_eval, put_size, hsz, h0, h3, h6, h8, h9])) HS0 ?_
  refine ButLast.take (oi := p13x6) 6 (.slice ua up.length uc) [15, 14, 13, 10] (by rfl) (by kernel_rfl) (by kernel_rfl) (by kernel_rfl) (by kernel_rfl) (by kernel_rfl) (fun c a w h => h) (yields_move (by rfl) 6 (by rfl) (by simp [put_eval, put_size, hsz, h0, h3, h6, h8, h9])) HS0 ?_
  refine ButLast.take (oi := p13x7) 7 (.int .i64 (k : Int)) [15, 14, 13, 10] (by rfl) (by kernel_rfl) (by kernel_rfl) (by kernel_rfl) (by kernel_rfl) (by kernel_rfl) (fun c a w h => h) (yields_move (by rfl) 8 (by rfl) (by simp [put_eval, put_size, hsz, h0, h3, h6, h8, h9])) HS0 ?_
  refine ButLast.take (oi := p13x8) 8 (.pointer (some ⟨x, 2, none⟩)) [15, 14, 13, 10, 9] (by rfl) (by kernel_rfl) (by kernel_rfl) (by kernel_rfl) (by kernel_rfl) (by kernel_rfl) (fun c a w h => h) (yields_field34_2 (by rfl) 3 x (by rfl) (by simp [put_eval, put_size, hsz, h0, h3, h6, h8, h9])) HS0 ?_
  refine ButLast.take (oi := p13x9) 9 (.int .i64 (nb : Int)) [15, 14, 13, 10] (by rfl) (by kernel_rfl) (by kernel_rfl) (by kernel_rfl) (by kernel_rfl) (by kernel_rfl) (fun c a w h => h) (yields_load3 (by rfl) 98 x 2 (by rfl) (by simp [put_eval, put_size, hsz, h0, h3, h6, h8, h9]) _ (fun V hV => cell_blk hV.2 2 _ rfl)) HS0 ?_
  refine ButLast.take (oi := p13x11) 11 (.pointer (some ⟨x, 3, none⟩)) [15, 14, 13, 12] (by rfl) (by kernel_rfl) (by kernel_rfl) (by kernel_rfl) (by kernel_rfl) (by kernel_rfl) (fun c a w h => h) (yields_field34_3 (by rfl) 3 x (by rfl) (by simp [put_eval, put_size, hsz, h0, h3, h6, h8, h9])) HS0 ?_
  refine ButLast.take (oi := p13x12) 12 (.int .i64 rc) [15, 14, 13] (by rfl) (by kernel_rfl) (by kernel_rfl) (by kernel_rfl) (by kernel_rfl) (by kernel_rfl) (fun c a w h => h) (yields_load3 (by rfl) 101 x 3 (by rfl) (by simp [put_eval, put_size, hsz, h0, h3, h6, h8, h9]) _ (fun V hV => cell_blk hV.2 3 _ rfl)) HS0 ?_
  refine ButLast.one (o := p13x10) 10 (by kernel_rfl) (by rfl) (fun K hK => ?_)
  refine step_go 121 #[.tmp 96, .tmp 97, .tmp 99] #[23, 3, 3] (by rfl) (by rfl) #[.slice ua up.length uc, .int .i64 (k : Int), .int .i64 (nb : Int)] (by simp [put_eval, put_size, hsz, h0, h3, h6, h8, h9]) (by kernel_rfl) (round_any (hup.under (Below.refl _ W).drew) hu0 k nb hk hn1 hu1) ?_
  rintro e V1 ⟨LV, rfl, hl1, hl2, hb1⟩
  have hB1 : Below W.heap.size W V1 := (Below.refl _ W).drew.trans hb1
  have hll : (roundL up k nb).length = nb := by simp [roundL]
  refine ⟨LV, rfl, hK.out _ _ (fun _ => HSB V1 hB1) ?_⟩
  clear hK K
  refine ButLast.one (o := p13x13) 13 (by kernel_rfl) (by rfl) (fun K hK => ?_)
  refine step_go 120 #[.tmp 95, .tmp 100, .tmp 102] #[3, 23, 3] (by rfl) (by rfl) #[.int .i64 id, LV, .int .i64 rc] (by simp [put_eval, put_size, hsz, h0, h3, h6, h8, h9]) (by kernel_rfl) (newPart_any id rc hl1 (by rw [hll]; exact hn0) hid' hrc) ?_
  rintro e V2 ⟨PV, rfl, hp1, hp2, hb2⟩
  have hB2 : Below W.heap.size W V2 := hB1.trans (hb2.mono hB1.size)
  refine ⟨PV, rfl, hK.out _ _ (fun _ => HSB V2 hB2) ?_⟩
  clear hK K
  generalize hPP : newP id (roundL up k nb) rc = p at *
  have hp0 := hp1
  obtain ⟨x1, y1, x2, y2, x3, y3, x4, y4, rfl, _⟩ := hp1.open
  have hs2 := hB2.size
  have hs1 := hB1.size
  have hB3 : Below W.heap.size W (V2.alloc (.cells #[.int .i64 p.id, .int .i64 p.leader, .int .i64 p.epoch, .int .i64 p.ver, .slice x1 p.isr.length y1, .slice x2 p.reps.length y2, .slice x3 p.add.length y3, .slice x4 p.rem.length y4, .int .i64 p.min] 54)) := hB2.alloc hs2 _
  have HSZ : (V2.alloc (.cells #[.int .i64 p.id, .int .i64 p.leader, .int .i64 p.epoch, .int .i64 p.ver, .slice x1 p.isr.length y1, .slice x2 p.reps.length y2, .slice x3 p.add.length y3, .slice x4 p.rem.length y4, .int .i64 p.min] 54)).heap.size = V2.heap.size + 1 := by simp
  have HROW : (V2.alloc (.cells #[.int .i64 p.id, .int .i64 p.leader, .int .i64 p.epoch, .int .i64 p.ver, .slice x1 p.isr.length y1, .slice x2 p.reps.length y2, .slice x3 p.add.length y3, .slice x4 p.rem.length y4, .int .i64 p.min] 54)).ownsRow 0 54 9 (.slice oa ps.length cap) ps.length (flatP ps) := (h.under hB3).parts
  have HNEW : ∀ j u, ([.int .i64 p.id, .int .i64 p.leader, .int .i64 p.epoch, .int .i64 p.ver, .slice x1 p.isr.length y1, .slice x2 p.reps.length y2, .slice x3 p.add.length y3, .slice x4 p.rem.length y4, .int .i64 p.min] : List Value)[j]? = some u → (V2.alloc (.cells #[.int .i64 p.id, .int .i64 p.leader, .int .i64 p.epoch, .int .i64 p.ver, .slice x1 p.isr.length y1, .slice x2 p.reps.length y2, .slice x3 p.add.length y3, .slice x4 p.rem.length y4, .int .i64 p.min] 54)).cell? ((⟨V2.heap.size, 0, none⟩ : Addr).add j) = some u := fun j u hu => by
    rw [add_at, Nat.zero_add]
    refine cell_blk (w := V2.alloc (.cells #[.int .i64 p.id, .int .i64 p.leader, .int .i64 p.epoch, .int .i64 p.ver, .slice x1 p.isr.length y1, .slice x2 p.reps.length y2, .slice x3 p.add.length y3, .slice x4 p.rem.length y4, .int .i64 p.min] 54)) (heap_alloc_new V2 (.cells #[.int .i64 p.id, .int .i64 p.leader, .int .i64 p.epoch, .int .i64 p.ver, .slice x1 p.isr.length y1, .slice x2 p.reps.length y2, .slice x3 p.add.length y3, .slice x4 p.rem.length y4, .int .i64 p.min] 54)) j u ?_
    rw [← hu]
    simp
  have HG : ∀ (w5 : World) (g c : Nat), w5.ownsRow 0 54 9 (.slice (some ⟨g, 0, none⟩) (ps.length + 1) c) (ps.length + 1) (flatP ps ++ [.int .i64 p.id, .int .i64 p.leader, .int .i64 p.epoch, .int .i64 p.ver, .slice x1 p.isr.length y1, .slice x2 p.reps.length y2, .slice x3 p.add.length y3, .slice x4 p.rem.length y4, .int .i64 p.min]) → (V2.alloc (.cells #[.int .i64 p.id, .int .i64 p.leader, .int .i64 p.epoch, .int .i64 p.ver, .slice x1 p.isr.length y1, .slice x2 p.reps.length y2, .slice x3 p.add.length y3, .slice x4 p.rem.length y4, .int .i64 p.min] 54)).grownBy w5 (Value.slice oa ps.length cap).ownBlock → ((Value.slice oa ps.length cap).ownBlock = some g ∨ g = V2.heap.size + 1) →
      w5.heap[q]? = some (.cells #[.int .i64 I.applied, .map (some b), vt, .slice oa ps.length cap, ve] 70) ∧ w5.heap[x]? = some (.cells #[.int .i64 rk, .int .i64 ra, .int .i64 (nb : Int), .int .i64 rc, .int .i64 rd, .string rn, .string rt, .slice la ll lc] 34) ∧ ImC (w5.setCell ⟨q, 3, none⟩ (.slice (some ⟨g, 0, none⟩) (ps.length + 1) c)) (fun j => L j ∨ (V1.heap.size ≤ j ∧ j < V2.heap.size)) q b vt (.slice (some ⟨g, 0, none⟩) (ps.length + 1) c) ve (ps ++ [(.agg #[.int .i64 p.id, .int .i64 p.leader, .int .i64 p.epoch, .int .i64 p.ver, .slice x1 p.isr.length y1, .slice x2 p.reps.length y2, .slice x3 p.add.length y3, .slice x4 p.rem.length y4, .int .i64 p.min], p)]) { I with parts := I.parts ++ [p] } ∧ Keeps (Own q b vt (.slice oa ps.length cap) ve) W (w5.setCell ⟨q, 3, none⟩ (.slice (some ⟨g, 0, none⟩) (ps.length + 1) c)) := fun w5 g c hown hg hat => by
    have hs5 := hg.size
    have hblk : ∀ j, j < V2.heap.size → (Value.slice oa ps.length cap).ownBlock ≠ some j → w5.heap[j]? = V2.heap[j]? := fun j hj hne => by
      rw [hg.block j (by rw [HSZ]; omega) (fun e => hne e.symm), Below.heap_alloc _ _ _ hj]
    have hqc := (hblk q (by omega) h.ne_q.2.1).trans ((hB2.block q hqlt).trans h.cells)
    have hvl : ∀ j, (Value.slice oa ps.length cap).ownBlock = some j → j < W.heap.size := fun j hj => h.lt (.inr (.inr (.inr (.inl hj))))
    have hnew : ∀ j, (Value.slice (some ⟨g, 0, none⟩) (ps.length + 1) c).ownBlock = some j → (Value.slice oa ps.length cap).ownBlock = some j ∨ V2.heap.size + 1 ≤ j := fun j hj => by
      cases hj
      rcases hat with e | e
      · exact .inl e
      · exact .inr (by show V2.heap.size + 1 ≤ g; omega)
    have hoth : ∀ j, j < W.heap.size → j ≠ q → (Value.slice oa ps.length cap).ownBlock ≠ some j → (w5.setCell ⟨q, 3, none⟩ (.slice (some ⟨g, 0, none⟩) (ps.length + 1) c)).heap[j]? = W.heap[j]? := fun j hj hjq hje => by
      rw [Below.heap_setCell _ _ _ _ hjq, hblk j (by omega) hje, hB2.block j hj]
    refine ⟨hqc, (hblk x (by omega) (fun e => hxo (.inr (.inr (.inr (.inl e)))))).trans (HSB V2 hB2).2, h.swapP (X := fun j => V1.heap.size ≤ j ∧ j < V2.heap.size) (by simp; omega) hoth (set_box hqc) ?_ (fun j hj => (hnew j hj).imp (fun e => e) (fun e => by omega)) ?_ (hp2.and hp0.old) (fun j hj => ⟨by simp; omega, by omega, fun e => ?_⟩) hok, ⟨hg.os.trans hB2.os, hg.tape.trans hB2.tape, hg.output.trans hB2.output, by simp; omega, fun j hj hS => hoth j hj (fun e => hS (.inl e)) (fun e => hS (.inr (.inr (.inr (.inl e)))))⟩⟩
    · have hqv : (Value.slice (some ⟨g, 0, none⟩) (ps.length + 1) c).ownBlock ≠ some q := fun e => by
        rcases hnew q e with e | e
        · exact h.ne_q.2.1 e
        · omega
      have h5 := row_kept hown (w1 := w5.setCell ⟨q, 3, none⟩ (.slice (some ⟨g, 0, none⟩) (ps.length + 1) c)) (fun j hj => Below.heap_setCell _ _ _ _ (fun e => hqv (by rw [hj, e])))
      rw [flatP_append]
      exact h5
    · refine hp0.kept (hp2.and hp0.old) (fun j hj => ?_) (by simp; omega)
      rw [Below.heap_setCell _ _ _ _ (by simp; omega)]
      exact hblk j hj.2 (fun e => by have := hvl j e; omega)
    · rcases hnew j e with e | e
      · have := hvl j e; omega
      · omega
  refine ButLast.one (o := p13x14) 14 (by kernel_rfl) (by rfl) (fun K hK => ?_)
  refine step_one30 (by rfl) 103 (by rfl) p.id p.leader p.epoch p.ver p.min x1 x2 x3 x4 p.isr.length p.reps.length p.add.length p.rem.length y1 y2 y3 y4 (by simp [put_eval, put_size, hsz, h0, h3, h6, h8, h9]) ?_
  refine hK.out _ _ (fun _ => HSB _ hB3) ?_
  clear hK K
  refine ButLast.one (o := p13x15) 15 (by kernel_rfl) (by rfl) (fun K hK => ?_)
  refine step_append_lies _ (by rfl) (.tmp 94) (.tmp 104) 30 (by rfl) 0 54 j0 _ 9 136 Tryz.underlying30 hj0 hz0 hz1 hz2 rfl (by decide) (.slice oa ps.length cap) ps.length (flatP ps) (by simp [put_eval, put_size, hsz, h0, h3, h6, h8, h9]) HROW ⟨V2.heap.size, 0, none⟩ 1 1 [.int .i64 p.id, .int .i64 p.leader, .int .i64 p.epoch, .int .i64 p.ver, .slice x1 p.isr.length y1, .slice x2 p.reps.length y2, .slice x3 p.add.length y3, .slice x4 p.rem.length y4, .int .i64 p.min] (by simp [put_eval, put_size, hsz, h0, h3, h6, h8, h9]) rfl HNEW (nine_one _ _ _ _ _ _ _ _ _) (by decide) (by unfold maxLen; omega) (by omega) (Nat.zero_le _) (V2.heap.size + 1) HSZ ?_
  intro g c w5 hown5 hg5 hat5 hlt5
  obtain ⟨f1, f2, f0, f3⟩ := HG w5 g c hown5 hg5 hat5
  have HS5 : w5.heap[q]? = some (.cells #[.int .i64 I.applied, .map (some b), vt, .slice oa ps.length cap, ve] 70) ∧ w5.heap[x]? = some (.cells #[.int .i64 rk, .int .i64 ra, .int .i64 (nb : Int), .int .i64 rc, .int .i64 rd, .string rn, .string rt, .slice la ll lc] 34) := ⟨f1, f2⟩
  refine hK.out _ _ (fun _ => HS5) ?_
  clear hK K
  refine ButLast.take (oi := p13x16) 16 (.pointer (some ⟨q, 0, none⟩)) [17] (by rfl) (by kernel_rfl) (by kernel_rfl) (by kernel_rfl) (by kernel_rfl) (by kernel_rfl) (fun c a w h => h) (yields_nil (by rfl) 90 q (by rfl) (by simp [put_eval, put_size, hsz, h0, h3, h6, h8, h9])) HS5 ?_
  refine ButLast.take (oi := p13x17) 17 (.pointer (some ⟨q, 3, none⟩)) [] (by rfl) (by kernel_rfl) (by kernel_rfl) (by kernel_rfl) (by kernel_rfl) (by kernel_rfl) (fun c a w h => h) (yields_field70_3 (by rfl) 106 q (by rfl) (by simp [put_eval, put_size, hsz, h0, h3, h6, h8, h9])) HS5 ?_
  have u0 := cell_blk f1 3 _ rfl
  have u1 := frz_blk f1 3
  refine ButLast.store30 (o := p13x18) 18 (by kernel_rfl) (by rfl) (by rfl) 107 105 (by rfl) q 3 g (ps.length + 1) c (by simp [put_eval, put_size, hsz, h0, h3, h6, h8, h9]) (by simp [put_eval, put_size, hsz, h0, h3, h6, h8, h9]) (.slice oa ps.length cap) u0 u1 (fun h => absurd rfl h) (ButLast.done (by kernel_rfl) ?_)
  exact NoPanic.normal (hQ g c _ _ _ _ _ _ _ f0 (fun j hj => hj.imp (fun e => e) (fun e => by omega)) (hat5.imp (fun e => e) (fun e => by omega)) f3)
end Go.Proofs.YtcffomhcmilcpaaGreat
