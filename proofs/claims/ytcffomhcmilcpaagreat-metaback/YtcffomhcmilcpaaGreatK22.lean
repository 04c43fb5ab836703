/- What a kind of record makes of a partition's state. -/
import Derived.Test.YtcffomhcmilcpaaGreatK12
import Derived.Test.YtcffomhcmilcpaaGreatK19
import Derived.Test.YtcffomhcmilcpaaGreatK20
import Derived.Test.YtcffomhcmilcpaaGreatK21
import Derived.Test.YtcffomhcmilcpaaGreatK6
namespace Go.Proofs.YtcffomhcmilcpaaGreat
open Go.RowKit Go.Maps
set_option maxRecDepth 100000
set_option linter.unusedSimpArgs false
set_option linter.unusedVariables false

set_option maxHeartbeats 8000000 in
theorem staying_any {w : World} {L : Nat → Prop} {q b : Nat} {vt vp ve : Value} {ps : List (Value × Pt)} {I : Im} (h : ImC w L q b vt vp ve ps I) {pv rv : Value} {p : Pt} {r : Rc} (hp : PartM w pv p) (hr : RecM w rv r) : Calls Tryz.prog 163 #[.pointer (some ⟨q, 0, none⟩), pv, rv] w fun e w' => Res (fun b => w.heap.size ≤ b) w (cancelP p (upL I.brs)) e w' := by
  have HP := hid hp
  obtain ⟨x1, y1, x2, y2, x3, y3, x4, y4, rfl, _⟩ := hp.open
  obtain ⟨⟨lv, rfl, hil⟩, ok, hname⟩ := hr
  have HL := hid hil
  obtain ⟨⟨la, lc, rfl, _⟩, _⟩ := hil
  obtain ⟨rk, ra, rb, rc, rd, rn, rt, rl⟩ := r
  simp only at ok hname HL ⊢
  obtain ⟨n, hn⟩ : ∃ n, n = cancelP p (upL I.brs) := ⟨_, rfl⟩
  rw [← hn]
  have HNN := hid hn
  clear hn
  have okb := ok.b
  have okc := ok.c
  have okd := ok.d
  simp only at okb okc okd
  have hbA : Below w.heap.size w (((w.alloc (.cells #[.int .i64 p.id, .int .i64 p.leader, .int .i64 p.epoch, .int .i64 p.ver, .slice x1 p.isr.length y1, .slice x2 p.reps.length y2, .slice x3 p.add.length y3, .slice x4 p.rem.length y4, .int .i64 p.min] 54)).alloc (.cells #[.int .i64 rk, .int .i64 ra, .int .i64 rb, .int .i64 rc, .int .i64 rd, .string rn, .string rt, .slice la rl.length lc] 34)).alloc (.cells #[.int .i64 0, .int .i64 0, .int .i64 0, .int .i64 0, .slice none 0 0, .slice none 0 0, .slice none 0 0, .slice none 0 0, .int .i64 0] 54)) := (((Below.refl _ _).alloc (Nat.le_refl _) _).alloc (by simp) _).alloc (by simp; omega) _
  have HBA := hid hbA
  have HX : Hid ((((w.alloc (.cells #[.int .i64 p.id, .int .i64 p.leader, .int .i64 p.epoch, .int .i64 p.ver, .slice x1 p.isr.length y1, .slice x2 p.reps.length y2, .slice x3 p.add.length y3, .slice x4 p.rem.length y4, .int .i64 p.min] 54)).alloc (.cells #[.int .i64 rk, .int .i64 ra, .int .i64 rb, .int .i64 rc, .int .i64 rd, .string rn, .string rt, .slice la rl.length lc] 34)).alloc (.cells #[.int .i64 0, .int .i64 0, .int .i64 0, .int .i64 0, .slice none 0 0, .slice none 0 0, .slice none 0 0, .slice none 0 0, .int .i64 0] 54)).heap[w.heap.size]? = some (.cells #[.int .i64 p.id, .int .i64 p.leader, .int .i64 p.epoch, .int .i64 p.ver, .slice x1 p.isr.length y1, .slice x2 p.reps.length y2, .slice x3 p.add.length y3, .slice x4 p.rem.length y4, .int .i64 p.min] 54) ∧ (((w.alloc (.cells #[.int .i64 p.id, .int .i64 p.leader, .int .i64 p.epoch, .int .i64 p.ver, .slice x1 p.isr.length y1, .slice x2 p.reps.length y2, .slice x3 p.add.length y3, .slice x4 p.rem.length y4, .int .i64 p.min] 54)).alloc (.cells #[.int .i64 rk, .int .i64 ra, .int .i64 rb, .int .i64 rc, .int .i64 rd, .string rn, .string rt, .slice la rl.length lc] 34)).alloc (.cells #[.int .i64 0, .int .i64 0, .int .i64 0, .int .i64 0, .slice none 0 0, .slice none 0 0, .slice none 0 0, .slice none 0 0, .int .i64 0] 54)).heap[w.heap.size + 1]? = some (.cells #[.int .i64 rk, .int .i64 ra, .int .i64 rb, .int .i64 rc, .int .i64 rd, .string rn, .string rt, .slice la rl.length lc] 34) ∧ (((w.alloc (.cells #[.int .i64 p.id, .int .i64 p.leader, .int .i64 p.epoch, .int .i64 p.ver, .slice x1 p.isr.length y1, .slice x2 p.reps.length y2, .slice x3 p.add.length y3, .slice x4 p.rem.length y4, .int .i64 p.min] 54)).alloc (.cells #[.int .i64 rk, .int .i64 ra, .int .i64 rb, .int .i64 rc, .int .i64 rd, .string rn, .string rt, .slice la rl.length lc] 34)).alloc (.cells #[.int .i64 0, .int .i64 0, .int .i64 0, .int .i64 0, .slice none 0 0, .slice none 0 0, .slice none 0 0, .slice none 0 0, .int .i64 0] 54)).heap[w.heap.size + 2]? = some (.cells #[.int .i64 0, .int .i64 0, .int .i64 0, .int .i64 0, .slice none 0 0, .slice none 0 0, .slice none 0 0, .slice none 0 0, .int .i64 0] 54) ∧ (((w.alloc (.cells #[.int .i64 p.id, .int .i64 p.leader, .int .i64 p.epoch, .int .i64 p.ver, .slice x1 p.isr.length y1, .slice x2 p.reps.length y2, .slice x3 p.add.length y3, .slice x4 p.rem.length y4, .int .i64 p.min] 54)).alloc (.cells #[.int .i64 rk, .int .i64 ra, .int .i64 rb, .int .i64 rc, .int .i64 rd, .string rn, .string rt, .slice la rl.length lc] 34)).alloc (.cells #[.int .i64 0, .int .i64 0, .int .i64 0, .int .i64 0, .slice none 0 0, .slice none 0 0, .slice none 0 0, .slice none 0 0, .int .i64 0] 54)).heap.size = w.heap.size + 3) := by
    refine ⟨?_, ?_, ?_, by simp⟩
    · rw [Below.heap_alloc _ _ _ (by simp; omega), Below.heap_alloc _ _ _ (by simp)]; exact heap_alloc_new _ _
    · rw [Below.heap_alloc _ _ _ (by simp)]
      have := heap_alloc_new (w.alloc (.cells #[.int .i64 p.id, .int .i64 p.leader, .int .i64 p.epoch, .int .i64 p.ver, .slice x1 p.isr.length y1, .slice x2 p.reps.length y2, .slice x3 p.add.length y3, .slice x4 p.rem.length y4, .int .i64 p.min] 54)) (.cells #[.int .i64 rk, .int .i64 ra, .int .i64 rb, .int .i64 rc, .int .i64 rd, .string rn, .string rt, .slice la rl.length lc] 34)
      rw [show (w.alloc (.cells #[.int .i64 p.id, .int .i64 p.leader, .int .i64 p.epoch, .int .i64 p.ver, .slice x1 p.isr.length y1, .slice x2 p.reps.length y2, .slice x3 p.add.length y3, .slice x4 p.rem.length y4, .int .i64 p.min] 54)).heap.size = w.heap.size + 1 by simp] at this
      exact this
    · have := heap_alloc_new ((w.alloc (.cells #[.int .i64 p.id, .int .i64 p.leader, .int .i64 p.epoch, .int .i64 p.ver, .slice x1 p.isr.length y1, .slice x2 p.reps.length y2, .slice x3 p.add.length y3, .slice x4 p.rem.length y4, .int .i64 p.min] 54)).alloc (.cells #[.int .i64 rk, .int .i64 ra, .int .i64 rb, .int .i64 rc, .int .i64 rd, .string rn, .string rt, .slice la rl.length lc] 34)) (.cells #[.int .i64 0, .int .i64 0, .int .i64 0, .int .i64 0, .slice none 0 0, .slice none 0 0, .slice none 0 0, .slice none 0 0, .int .i64 0] 54)
      rw [show ((w.alloc (.cells #[.int .i64 p.id, .int .i64 p.leader, .int .i64 p.epoch, .int .i64 p.ver, .slice x1 p.isr.length y1, .slice x2 p.reps.length y2, .slice x3 p.add.length y3, .slice x4 p.rem.length y4, .int .i64 p.min] 54)).alloc (.cells #[.int .i64 rk, .int .i64 ra, .int .i64 rb, .int .i64 rc, .int .i64 rd, .string rn, .string rt, .slice la rl.length lc] 34)).heap.size = w.heap.size + 2 by simp] at this
      exact this
  have HI := hid (h.under hbA)
  have HPW := hid (HP.out.under hbA)
  have HLW := hid (HL.out.under hbA)
  clear h hp hbA HP HL ok
  go_enter Tryz.func163, Tryz.ntmps163
  go_upto_region 1 with fail
  generalize (((w.alloc (.cells #[.int .i64 p.id, .int .i64 p.leader, .int .i64 p.epoch, .int .i64 p.ver, .slice x1 p.isr.length y1, .slice x2 p.reps.length y2, .slice x3 p.add.length y3, .slice x4 p.rem.length y4, .int .i64 p.min] 54)).alloc (.cells #[.int .i64 rk, .int .i64 ra, .int .i64 rb, .int .i64 rc, .int .i64 rd, .string rn, .string rt, .slice la rl.length lc] 34)).alloc (.cells #[.int .i64 0, .int .i64 0, .int .i64 0, .int .i64 0, .slice none 0 0, .slice none 0 0, .slice none 0 0, .slice none 0 0, .int .i64 0] 54)) = W at *
  obtain ⟨x, hx⟩ : ∃ x, x = w.heap.size := ⟨_, rfl⟩
  rw [← hx] at HX HBA ⊢
  have HXW := hid hx
  clear hx
  have HUP := hid (up_any (HI.out.under (Below.refl _ W).drew))
  have HM : Hid (∀ V, Below W.heap.size W V → V.cell? ⟨x, 0, none⟩ = some (.int .i64 p.id) ∧ V.cell? ⟨x, 1, none⟩ = some (.int .i64 p.leader) ∧ V.cell? ⟨x, 2, none⟩ = some (.int .i64 p.epoch) ∧ V.cell? ⟨x, 3, none⟩ = some (.int .i64 p.ver) ∧ V.cell? ⟨x, 4, none⟩ = some (.slice x1 p.isr.length y1) ∧ V.cell? ⟨x, 5, none⟩ = some (.slice x2 p.reps.length y2) ∧ V.cell? ⟨x, 6, none⟩ = some (.slice x3 p.add.length y3) ∧ V.cell? ⟨x, 7, none⟩ = some (.slice x4 p.rem.length y4) ∧ V.cell? ⟨x, 8, none⟩ = some (.int .i64 p.min)) := fun V hV => ⟨kept_cell hV (cell_blk HX.out.1 0 _ rfl), kept_cell hV (cell_blk HX.out.1 1 _ rfl), kept_cell hV (cell_blk HX.out.1 2 _ rfl), kept_cell hV (cell_blk HX.out.1 3 _ rfl), kept_cell hV (cell_blk HX.out.1 4 _ rfl), kept_cell hV (cell_blk HX.out.1 5 _ rfl), kept_cell hV (cell_blk HX.out.1 6 _ rfl), kept_cell hV (cell_blk HX.out.1 7 _ rfl), kept_cell hV (cell_blk HX.out.1 8 _ rfl)⟩
  obtain ⟨k0, k1, k2, k3, k4, k5, k6, k7, k8⟩ := HM.out W (Below.refl _ _)
  have HDC : Hid (∀ V uv, Below W.drew.heap.size W.drew V → IL V uv (upL I.brs) → Calls Tryz.prog 185 #[.agg #[.int .i64 p.id, .int .i64 p.leader, .int .i64 p.epoch, .int .i64 p.ver, .slice x1 p.isr.length y1, .slice x2 p.reps.length y2, .slice x3 p.add.length y3, .slice x4 p.rem.length y4, .int .i64 p.min], uv] V fun e w' => Res (fun b => V.heap.size ≤ b) V n e w') := fun V uv hV hu => by rw [HNN.out]; exact cancel_any (HPW.out.under ((Below.refl _ W).drew.trans hV)) hu
  go_region_with (first | (go_at_call 24; refine HUP.out.mono ?_; rintro e V1 ⟨uv, rfl, hu1, hu2, hb1⟩; obtain ⟨ua, uc, rfl, _⟩ := hu1.shape; have HDD := hid (HDC.out V1 _ hb1 hu1); have HB1 : Hid (Below W.heap.size W V1) := (Below.refl _ W).drew.trans hb1; clear k0 k1 k2 k3 k4 k5 k6 k7 k8; obtain ⟨k0, k1, k2, k3, k4, k5, k6, k7, k8⟩ := HM.out V1 HB1.out; clear hu1 hu2 hb1) | (go_at_call 185; refine HDD.out.mono ?_; rintro e V2 ⟨nv, rfl, hn1, hn2, hb2⟩; have HN1 := hid hn1; have HN2 := hid hn2; have HB2 : Hid (Below W.heap.size W V2) := HB1.out.trans (hb2.mono HB1.out.size); have hs12 := HB1.out.size; obtain ⟨u1, z1, u2, z2, u3, z3, u4, z4, rfl, _⟩ := hn1.open; have zb := (HB2.out.block (x + 2) (by have := HX.out.2.2.2; omega)).trans HX.out.2.2.1; have HZB := hid zb; have e0 := cell_blk zb 0 _ rfl; have e1 := cell_blk zb 1 _ rfl; have e2 := cell_blk zb 2 _ rfl; have e3 := cell_blk zb 3 _ rfl; have e4 := cell_blk zb 4 _ rfl; have e5 := cell_blk zb 5 _ rfl; have e6 := cell_blk zb 6 _ rfl; have e7 := cell_blk zb 7 _ rfl; have e8 := cell_blk zb 8 _ rfl; have ef := frz_blk zb; clear k0 k1 k2 k3 k4 k5 k6 k7 k8; obtain ⟨k0, k1, k2, k3, k4, k5, k6, k7, k8⟩ := HM.out V2 HB2.out; clear hn2 hb2 zb) | fail)
  all_goals
    go_wp2_with fail
    obtain ⟨N, hN⟩ : ∃ N, N = puts V2 (x + 2) 0 [.int .i64 n.1.id, .int .i64 n.1.leader, .int .i64 n.1.epoch, .int .i64 n.1.ver, .slice u1 n.1.isr.length z1, .slice u2 n.1.reps.length z2, .slice u3 n.1.add.length z3, .slice u4 n.1.rem.length z4, .int .i64 n.1.min] := ⟨_, rfl⟩
    have HR : PutsR V2 N (x + 2) 0 [.int .i64 n.1.id, .int .i64 n.1.leader, .int .i64 n.1.epoch, .int .i64 n.1.ver, .slice u1 n.1.isr.length z1, .slice u2 n.1.reps.length z2, .slice u3 n.1.add.length z3, .slice u4 n.1.rem.length z4, .int .i64 n.1.min] := by rw [hN]; exact puts_all _ _ _ _
    show bodyPost Tryz.prog Tryz.f163 _ Exit.ret _ (puts V2 (x + 2) 0 [.int .i64 n.1.id, .int .i64 n.1.leader, .int .i64 n.1.epoch, .int .i64 n.1.ver, .slice u1 n.1.isr.length z1, .slice u2 n.1.reps.length z2, .slice u3 n.1.add.length z3, .slice u4 n.1.rem.length z4, .int .i64 n.1.min])
    rw [← hN]
    clear hN
    have hx := HR.box9 HZB.out rfl
    have hxw := HXW.out
    have s0 := cell_blk hx 0 _ rfl
    have s1 := cell_blk hx 1 _ rfl
    have s2 := cell_blk hx 2 _ rfl
    have s3 := cell_blk hx 3 _ rfl
    have s4 := cell_blk hx 4 _ rfl
    have s5 := cell_blk hx 5 _ rfl
    have s6 := cell_blk hx 6 _ rfl
    have s7 := cell_blk hx 7 _ rfl
    have s8 := cell_blk hx 8 _ rfl
    exact bodyPost_ret (v := .tuple #[.agg #[.int .i64 n.1.id, .int .i64 n.1.leader, .int .i64 n.1.epoch, .int .i64 n.1.ver, .slice u1 n.1.isr.length z1, .slice u2 n.1.reps.length z2, .slice u3 n.1.add.length z3, .slice u4 n.1.rem.length z4, .int .i64 n.1.min], .int .i64 n.2]) (by simp [results, Tryz.results163, go_sem, s0, s1, s2, s3, s4, s5, s6, s7, s8]) rfl ⟨_, rfl, HN1.out.kept HN2.out (fun k hk => HR.other k (by have := HX.out.2.2.2; omega)) (by rw [HR.size]; exact Nat.le_refl _), HN2.out.mono (fun k hk => by have := HX.out.2.2.2; omega), by rw [← hxw]; exact HR.below (HBA.out.trans (HB2.out.mono (by have := HBA.out.size; omega))) (by omega)⟩
set_option maxHeartbeats 8000000 in
theorem moved_any {w : World} {L : Nat → Prop} {q b : Nat} {vt vp ve : Value} {ps : List (Value × Pt)} {I : Im} (h : ImC w L q b vt vp ve ps I) {pv rv : Value} {p : Pt} {r : Rc} (hp : PartM w pv p) (hr : RecM w rv r) : Calls Tryz.prog 164 #[.pointer (some ⟨q, 0, none⟩), pv, rv] w fun e w' => Res (fun b => w.heap.size ≤ b) w (finishP p (upL I.brs)) e w' := by
  have HP := hid hp
  obtain ⟨x1, y1, x2, y2, x3, y3, x4, y4, rfl, _⟩ := hp.open
  obtain ⟨⟨lv, rfl, hil⟩, ok, hname⟩ := hr
  have HL := hid hil
  obtain ⟨⟨la, lc, rfl, _⟩, _⟩ := hil
  obtain ⟨rk, ra, rb, rc, rd, rn, rt, rl⟩ := r
  simp only at ok hname HL ⊢
  obtain ⟨n, hn⟩ : ∃ n, n = finishP p (upL I.brs) := ⟨_, rfl⟩
  rw [← hn]
  have HNN := hid hn
  clear hn
  have okb := ok.b
  have okc := ok.c
  have okd := ok.d
  simp only at okb okc okd
  have hbA : Below w.heap.size w (((w.alloc (.cells #[.int .i64 p.id, .int .i64 p.leader, .int .i64 p.epoch, .int .i64 p.ver, .slice x1 p.isr.length y1, .slice x2 p.reps.length y2, .slice x3 p.add.length y3, .slice x4 p.rem.length y4, .int .i64 p.min] 54)).alloc (.cells #[.int .i64 rk, .int .i64 ra, .int .i64 rb, .int .i64 rc, .int .i64 rd, .string rn, .string rt, .slice la rl.length lc] 34)).alloc (.cells #[.int .i64 0, .int .i64 0, .int .i64 0, .int .i64 0, .slice none 0 0, .slice none 0 0, .slice none 0 0, .slice none 0 0, .int .i64 0] 54)) := (((Below.refl _ _).alloc (Nat.le_refl _) _).alloc (by simp) _).alloc (by simp; omega) _
  have HBA := hid hbA
  have HX : Hid ((((w.alloc (.cells #[.int .i64 p.id, .int .i64 p.leader, .int .i64 p.epoch, .int .i64 p.ver, .slice x1 p.isr.length y1, .slice x2 p.reps.length y2, .slice x3 p.add.length y3, .slice x4 p.rem.length y4, .int .i64 p.min] 54)).alloc (.cells #[.int .i64 rk, .int .i64 ra, .int .i64 rb, .int .i64 rc, .int .i64 rd, .string rn, .string rt, .slice la rl.length lc] 34)).alloc (.cells #[.int .i64 0, .int .i64 0, .int .i64 0, .int .i64 0, .slice none 0 0, .slice none 0 0, .slice none 0 0, .slice none 0 0, .int .i64 0] 54)).heap[w.heap.size]? = some (.cells #[.int .i64 p.id, .int .i64 p.leader, .int .i64 p.epoch, .int .i64 p.ver, .slice x1 p.isr.length y1, .slice x2 p.reps.length y2, .slice x3 p.add.length y3, .slice x4 p.rem.length y4, .int .i64 p.min] 54) ∧ (((w.alloc (.cells #[.int .i64 p.id, .int .i64 p.leader, .int .i64 p.epoch, .int .i64 p.ver, .slice x1 p.isr.length y1, .slice x2 p.reps.length y2, .slice x3 p.add.length y3, .slice x4 p.rem.length y4, .int .i64 p.min] 54)).alloc (.cells #[.int .i64 rk, .int .i64 ra, .int .i64 rb, .int .i64 rc, .int .i64 rd, .string rn, .string rt, .slice la rl.length lc] 34)).alloc (.cells #[.int .i64 0, .int .i64 0, .int .i64 0, .int .i64 0, .slice none 0 0, .slice none 0 0, .slice none 0 0, .slice none 0 0, .int .i64 0] 54)).heap[w.heap.size + 1]? = some (.cells #[.int .i64 rk, .int .i64 ra, .int .i64 rb, .int .i64 rc, .int .i64 rd, .string rn, .string rt, .slice la rl.length lc] 34) ∧ (((w.alloc (.cells #[.int .i64 p.id, .int .i64 p.leader, .int .i64 p.epoch, .int .i64 p.ver, .slice x1 p.isr.length y1, .slice x2 p.reps.length y2, .slice x3 p.add.length y3, .slice x4 p.rem.length y4, .int .i64 p.min] 54)).alloc (.cells #[.int .i64 rk, .int .i64 ra, .int .i64 rb, .int .i64 rc, .int .i64 rd, .string rn, .string rt, .slice la rl.length lc] 34)).alloc (.cells #[.int .i64 0, .int .i64 0, .int .i64 0, .int .i64 0, .slice none 0 0, .slice none 0 0, .slice none 0 0, .slice none 0 0, .int .i64 0] 54)).heap[w.heap.size + 2]? = some (.cells #[.int .i64 0, .int .i64 0, .int .i64 0, .int .i64 0, .slice none 0 0, .slice none 0 0, .slice none 0 0, .slice none 0 0, .int .i64 0] 54) ∧ (((w.alloc (.cells #[.int .i64 p.id, .int .i64 p.leader, .int .i64 p.epoch, .int .i64 p.ver, .slice x1 p.isr.length y1, .slice x2 p.reps.length y2, .slice x3 p.add.length y3, .slice x4 p.rem.length y4, .int .i64 p.min] 54)).alloc (.cells #[.int .i64 rk, .int .i64 ra, .int .i64 rb, .int .i64 rc, .int .i64 rd, .string rn, .string rt, .slice la rl.length lc] 34)).alloc (.cells #[.int .i64 0, .int .i64 0, .int .i64 0, .int .i64 0, .slice none 0 0, .slice none 0 0, .slice none 0 0, .slice none 0 0, .int .i64 0] 54)).heap.size = w.heap.size + 3) := by
    refine ⟨?_, ?_, ?_, by simp⟩
    · rw [Below.heap_alloc _ _ _ (by simp; omega), Below.heap_alloc _ _ _ (by simp)]; exact heap_alloc_new _ _
    · rw [Below.heap_alloc _ _ _ (by simp)]
      have := heap_alloc_new (w.alloc (.cells #[.int .i64 p.id, .int .i64 p.leader, .int .i64 p.epoch, .int .i64 p.ver, .slice x1 p.isr.length y1, .slice x2 p.reps.length y2, .slice x3 p.add.length y3, .slice x4 p.rem.length y4, .int .i64 p.min] 54)) (.cells #[.int .i64 rk, .int .i64 ra, .int .i64 rb, .int .i64 rc, .int .i64 rd, .string rn, .string rt, .slice la rl.length lc] 34)
      rw [show (w.alloc (.cells #[.int .i64 p.id, .int .i64 p.leader, .int .i64 p.epoch, .int .i64 p.ver, .slice x1 p.isr.length y1, .slice x2 p.reps.length y2, .slice x3 p.add.length y3, .slice x4 p.rem.length y4, .int .i64 p.min] 54)).heap.size = w.heap.size + 1 by simp] at this
      exact this
    · have := heap_alloc_new ((w.alloc (.cells #[.int .i64 p.id, .int .i64 p.leader, .int .i64 p.epoch, .int .i64 p.ver, .slice x1 p.isr.length y1, .slice x2 p.reps.length y2, .slice x3 p.add.length y3, .slice x4 p.rem.length y4, .int .i64 p.min] 54)).alloc (.cells #[.int .i64 rk, .int .i64 ra, .int .i64 rb, .int .i64 rc, .int .i64 rd, .string rn, .string rt, .slice la rl.length lc] 34)) (.cells #[.int .i64 0, .int .i64 0, .int .i64 0, .int .i64 0, .slice none 0 0, .slice none 0 0, .slice none 0 0, .slice none 0 0, .int .i64 0] 54)
      rw [show ((w.alloc (.cells #[.int .i64 p.id, .int .i64 p.leader, .int .i64 p.epoch, .int .i64 p.ver, .slice x1 p.isr.length y1, .slice x2 p.reps.length y2, .slice x3 p.add.length y3, .slice x4 p.rem.length y4, .int .i64 p.min] 54)).alloc (.cells #[.int .i64 rk, .int .i64 ra, .int .i64 rb, .int .i64 rc, .int .i64 rd, .string rn, .string rt, .slice la rl.length lc] 34)).heap.size = w.heap.size + 2 by simp] at this
      exact this
  have HI := hid (h.under hbA)
  have HPW := hid (HP.out.under hbA)
  have HLW := hid (HL.out.under hbA)
  clear h hp hbA HP HL ok
  go_enter Tryz.func164, Tryz.ntmps164
  go_upto_region 1 with fail
  generalize (((w.alloc (.cells #[.int .i64 p.id, .int .i64 p.leader, .int .i64 p.epoch, .int .i64 p.ver, .slice x1 p.isr.length y1, .slice x2 p.reps.length y2, .slice x3 p.add.length y3, .slice x4 p.rem.length y4, .int .i64 p.min] 54)).alloc (.cells #[.int .i64 rk, .int .i64 ra, .int .i64 rb, .int .i64 rc, .int .i64 rd, .string rn, .string rt, .slice la rl.length lc] 34)).alloc (.cells #[.int .i64 0, .int .i64 0, .int .i64 0, .int .i64 0, .slice none 0 0, .slice none 0 0, .slice none 0 0, .slice none 0 0, .int .i64 0] 54)) = W at *
  obtain ⟨x, hx⟩ : ∃ x, x = w.heap.size := ⟨_, rfl⟩
  rw [← hx] at HX HBA ⊢
  have HXW := hid hx
  clear hx
  have HUP := hid (up_any (HI.out.under (Below.refl _ W).drew))
  have HM : Hid (∀ V, Below W.heap.size W V → V.cell? ⟨x, 0, none⟩ = some (.int .i64 p.id) ∧ V.cell? ⟨x, 1, none⟩ = some (.int .i64 p.leader) ∧ V.cell? ⟨x, 2, none⟩ = some (.int .i64 p.epoch) ∧ V.cell? ⟨x, 3, none⟩ = some (.int .i64 p.ver) ∧ V.cell? ⟨x, 4, none⟩ = some (.slice x1 p.isr.length y1) ∧ V.cell? ⟨x, 5, none⟩ = some (.slice x2 p.reps.length y2) ∧ V.cell? ⟨x, 6, none⟩ = some (.slice x3 p.add.length y3) ∧ V.cell? ⟨x, 7, none⟩ = some (.slice x4 p.rem.length y4) ∧ V.cell? ⟨x, 8, none⟩ = some (.int .i64 p.min)) := fun V hV => ⟨kept_cell hV (cell_blk HX.out.1 0 _ rfl), kept_cell hV (cell_blk HX.out.1 1 _ rfl), kept_cell hV (cell_blk HX.out.1 2 _ rfl), kept_cell hV (cell_blk HX.out.1 3 _ rfl), kept_cell hV (cell_blk HX.out.1 4 _ rfl), kept_cell hV (cell_blk HX.out.1 5 _ rfl), kept_cell hV (cell_blk HX.out.1 6 _ rfl), kept_cell hV (cell_blk HX.out.1 7 _ rfl), kept_cell hV (cell_blk HX.out.1 8 _ rfl)⟩
  obtain ⟨k0, k1, k2, k3, k4, k5, k6, k7, k8⟩ := HM.out W (Below.refl _ _)
  have HDC : Hid (∀ V uv, Below W.drew.heap.size W.drew V → IL V uv (upL I.brs) → Calls Tryz.prog 186 #[.agg #[.int .i64 p.id, .int .i64 p.leader, .int .i64 p.epoch, .int .i64 p.ver, .slice x1 p.isr.length y1, .slice x2 p.reps.length y2, .slice x3 p.add.length y3, .slice x4 p.rem.length y4, .int .i64 p.min], uv] V fun e w' => Res (fun b => V.heap.size ≤ b) V n e w') := fun V uv hV hu => by rw [HNN.out]; exact finish_any (HPW.out.under ((Below.refl _ W).drew.trans hV)) hu
  go_region_with (first | (go_at_call 24; refine HUP.out.mono ?_; rintro e V1 ⟨uv, rfl, hu1, hu2, hb1⟩; obtain ⟨ua, uc, rfl, _⟩ := hu1.shape; have HDD := hid (HDC.out V1 _ hb1 hu1); have HB1 : Hid (Below W.heap.size W V1) := (Below.refl _ W).drew.trans hb1; clear k0 k1 k2 k3 k4 k5 k6 k7 k8; obtain ⟨k0, k1, k2, k3, k4, k5, k6, k7, k8⟩ := HM.out V1 HB1.out; clear hu1 hu2 hb1) | (go_at_call 186; refine HDD.out.mono ?_; rintro e V2 ⟨nv, rfl, hn1, hn2, hb2⟩; have HN1 := hid hn1; have HN2 := hid hn2; have HB2 : Hid (Below W.heap.size W V2) := HB1.out.trans (hb2.mono HB1.out.size); have hs12 := HB1.out.size; obtain ⟨u1, z1, u2, z2, u3, z3, u4, z4, rfl, _⟩ := hn1.open; have zb := (HB2.out.block (x + 2) (by have := HX.out.2.2.2; omega)).trans HX.out.2.2.1; have HZB := hid zb; have e0 := cell_blk zb 0 _ rfl; have e1 := cell_blk zb 1 _ rfl; have e2 := cell_blk zb 2 _ rfl; have e3 := cell_blk zb 3 _ rfl; have e4 := cell_blk zb 4 _ rfl; have e5 := cell_blk zb 5 _ rfl; have e6 := cell_blk zb 6 _ rfl; have e7 := cell_blk zb 7 _ rfl; have e8 := cell_blk zb 8 _ rfl; have ef := frz_blk zb; clear k0 k1 k2 k3 k4 k5 k6 k7 k8; obtain ⟨k0, k1, k2, k3, k4, k5, k6, k7, k8⟩ := HM.out V2 HB2.out; clear hn2 hb2 zb) | fail)
  all_goals
    go_wp2_with fail
    obtain ⟨N, hN⟩ : ∃ N, N = puts V2 (x + 2) 0 [.int .i64 n.1.id, .int .i64 n.1.leader, .int .i64 n.1.epoch, .int .i64 n.1.ver, .slice u1 n.1.isr.length z1, .slice u2 n.1.reps.length z2, .slice u3 n.1.add.length z3, .slice u4 n.1.rem.length z4, .int .i64 n.1.min] := ⟨_, rfl⟩
    have HR : PutsR V2 N (x + 2) 0 [.int .i64 n.1.id, .int .i64 n.1.leader, .int .i64 n.1.epoch, .int .i64 n.1.ver, .slice u1 n.1.isr.length z1, .slice u2 n.1.reps.length z2, .slice u3 n.1.add.length z3, .slice u4 n.1.rem.length z4, .int .i64 n.1.min] := by rw [hN]; exact puts_all _ _ _ _
    show bodyPost Tryz.prog Tryz.f164 _ Exit.ret _ (puts V2 (x + 2) 0 [.int .i64 n.1.id, .int .i64 n.1.leader, .int .i64 n.1.epoch, .int .i64 n.1.ver, .slice u1 n.1.isr.length z1, .slice u2 n.1.reps.length z2, .slice u3 n.1.add.length z3, .slice u4 n.1.rem.length z4, .int .i64 n.1.min])
    rw [← hN]
    clear hN
    have hx := HR.box9 HZB.out rfl
    have hxw := HXW.out
    have s0 := cell_blk hx 0 _ rfl
    have s1 := cell_blk hx 1 _ rfl
    have s2 := cell_blk hx 2 _ rfl
    have s3 := cell_blk hx 3 _ rfl
    have s4 := cell_blk hx 4 _ rfl
    have s5 := cell_blk hx 5 _ rfl
    have s6 := cell_blk hx 6 _ rfl
    have s7 := cell_blk hx 7 _ rfl
    have s8 := cell_blk hx 8 _ rfl
    exact bodyPost_ret (v := .tuple #[.agg #[.int .i64 n.1.id, .int .i64 n.1.leader, .int .i64 n.1.epoch, .int .i64 n.1.ver, .slice u1 n.1.isr.length z1, .slice u2 n.1.reps.length z2, .slice u3 n.1.add.length z3, .slice u4 n.1.rem.length z4, .int .i64 n.1.min], .int .i64 n.2]) (by simp [results, Tryz.results164, go_sem, s0, s1, s2, s3, s4, s5, s6, s7, s8]) rfl ⟨_, rfl, HN1.out.kept HN2.out (fun k hk => HR.other k (by have := HX.out.2.2.2; omega)) (by rw [HR.size]; exact Nat.le_refl _), HN2.out.mono (fun k hk => by have := HX.out.2.2.2; omega), by rw [← hxw]; exact HR.below (HBA.out.trans (HB2.out.mono (by have := HBA.out.size; omega))) (by omega)⟩
end Go.Proofs.YtcffomhcmilcpaaGreat

