/- One record is applied; a partition is asked. -/
import Derived.Test.YtcffomhcmilcpaaGreatA13
namespace Go.Proofs.YtcffomhcmilcpaaGreat
open Go.RowKit Go.Maps
set_option maxRecDepth 100000
set_option linter.unusedSimpArgs false
set_option linter.unusedVariables false

def PartOut (w w' : World) (p : Pt) (e : Ending) : Prop := ∃ v, e = .returned (.tuple #[v, .bool true]) ∧ PartM w' v p ∧ InP (fun k => w.heap.size ≤ k) v p ∧ Below w.heap.size w w'
set_option maxHeartbeats 3200000 in
theorem part_yes {w : World} {Z : Nat → Prop} {q : Nat} {I : Im} (hi : Img w Z q I) (i : Nat) (hil : i < I.parts.length) : Calls Tryz.prog 30 #[.pointer (some ⟨q, 0, none⟩), .int .i64 ((i : Int) + 1)] w fun e w' => PartOut w w' I.parts[i] e := by
  obtain ⟨n, hn0⟩ : ∃ n : Int, n = (i : Int) + 1 := ⟨_, rfl⟩
  rw [← hn0]
  have hf0 := hi.ok.few
  have hn : I64 n := by unfold I64; omega
  have h : upB n I.parts.length = true := upB_iff.2 ⟨by omega, by omega⟩
  obtain ⟨L, b, vt, vp, ve, ps, h1, hz1, hz2, hz3⟩ := hi
  have HI := hid h1
  have c3 := h1.c3
  obtain ⟨oa, cap, hvp, _, _, _, hat⟩ := row_shape h1.parts
  have hpl := h1.plen
  rw [← hpl] at hvp hat
  subst hvp
  have hf := h1.ok.few
  have hqlt : q < w.heap.size := h1.lt (.inl rfl)
  have HU := hid (fun V => upTo_any n (I.parts.length : Int) V hn (by unfold I64; omega))
  rw [h] at HU
  obtain ⟨g, rfl⟩ := hat (by omega)
  have hbA : Below w.heap.size w (w.alloc (.cells #[.int .i64 0, .int .i64 0, .int .i64 0, .int .i64 0, .slice none 0 0, .slice none 0 0, .slice none 0 0, .slice none 0 0, .int .i64 0] 54)) := (Below.refl _ _).alloc (Nat.le_refl _) _
  have h2 := h1.under hbA
  have hxi : ps[i]? = some ps[i] := List.getElem?_eq_getElem (by rw [← hpl]; exact hil)
  have hr := fun t ht u hu => (h2.at_ i _ hxi t ht u hu)
  have hpm := (h2.each ps[i] (by simp)).1
  have hpp : ps[i].2 = I.parts[i] := by
    have e : (ps.map (·.2))[i]? = some I.parts[i] := by rw [← h1.abs]; exact List.getElem?_eq_getElem hil
    rw [List.getElem?_map, hxi] at e
    simpa using e
  rw [hpp] at hpm
  obtain ⟨x1, y1, x2, y2, x3, y3, x4, y4, hu, _⟩ := hpm.open
  rw [hu] at hr hpm
  have HPM := hid hpm
  have HB := hid (heap_alloc_new w (.cells #[.int .i64 0, .int .i64 0, .int .i64 0, .int .i64 0, .slice none 0 0, .slice none 0 0, .slice none 0 0, .slice none 0 0, .int .i64 0] 54))
  have HBA := hid hbA
  have d3 := h2.c3
  generalize I.parts[i] = P at *
  have r0 := hr 0 (by decide) _ rfl
  have r1 := hr 1 (by decide) _ rfl
  have r2 := hr 2 (by decide) _ rfl
  have r3 := hr 3 (by decide) _ rfl
  have r4 := hr 4 (by decide) _ rfl
  have r5 := hr 5 (by decide) _ rfl
  have r6 := hr 6 (by decide) _ rfl
  have r7 := hr 7 (by decide) _ rfl
  have r8 := hr 8 (by decide) _ rfl
  rw [Nat.add_zero] at r0
  have hil' : (i : Int) < (I.parts.length : Int) := by omega
  have hwr : IntKind.i64.wrap (n - 1) = (i : Int) := by rw [show n - 1 = (i : Int) by omega]; exact IntWalk.i64_in _ ⟨by omega, by omega⟩
  have HCL := hid (clone_any HPM.out)
  clear hr hpm hpp hxi h1 h2 h hz1 hz2 hz3 hu hbA hn0 hpl c3
  go_enter Tryz.func30, Tryz.ntmps30
  go_upto_region 1 with fail
  generalize w.alloc (.cells #[.int .i64 0, .int .i64 0, .int .i64 0, .int .i64 0, .slice none 0 0, .slice none 0 0, .slice none 0 0, .slice none 0 0, .int .i64 0] 54) = W at *
  go_wp2_with (first | (go_at_call 67; refine (HU.out _).mono ?_; rintro e w9 ⟨rfl, rfl⟩) | (go_at_call 62; refine HCL.out.mono ?_; rintro e W1 ⟨v', rfl, hp1, hp2, hb1⟩; have HP1 := hid hp1; have HN1 := hid hp2; have HT1 := hid ((hb1.block w.heap.size (Array.getElem?_eq_some_iff.1 HB.out).1).trans HB.out); have HBW := hid (HBA.out.trans (hb1.mono HBA.out.size)); obtain ⟨u1, z1, u2, z2, u3, z3, u4, z4, rfl, _⟩ := hp1.open; have k0 := cell_blk HT1.out 0 _ rfl; have k1 := cell_blk HT1.out 1 _ rfl; have k2 := cell_blk HT1.out 2 _ rfl; have k3 := cell_blk HT1.out 3 _ rfl; have k4 := cell_blk HT1.out 4 _ rfl; have k5 := cell_blk HT1.out 5 _ rfl; have k6 := cell_blk HT1.out 6 _ rfl; have k7 := cell_blk HT1.out 7 _ rfl; have k8 := cell_blk HT1.out 8 _ rfl; have fz := frz_blk HT1.out; clear hp2 hb1))
  obtain ⟨N, hN⟩ : ∃ N, N = puts W1 w.heap.size 0 [.int .i64 P.id, .int .i64 P.leader, .int .i64 P.epoch, .int .i64 P.ver, .slice u1 P.isr.length z1, .slice u2 P.reps.length z2, .slice u3 P.add.length z3, .slice u4 P.rem.length z4, .int .i64 P.min] := ⟨_, rfl⟩
  have HR : PutsR W1 N w.heap.size 0 [.int .i64 P.id, .int .i64 P.leader, .int .i64 P.epoch, .int .i64 P.ver, .slice u1 P.isr.length z1, .slice u2 P.reps.length z2, .slice u3 P.add.length z3, .slice u4 P.rem.length z4, .int .i64 P.min] := by rw [hN]; exact puts_all _ _ _ _
  show bodyPost Tryz.prog Tryz.f30 _ Exit.ret _ (puts W1 w.heap.size 0 [.int .i64 P.id, .int .i64 P.leader, .int .i64 P.epoch, .int .i64 P.ver, .slice u1 P.isr.length z1, .slice u2 P.reps.length z2, .slice u3 P.add.length z3, .slice u4 P.rem.length z4, .int .i64 P.min])
  rw [← hN]
  clear hN
  have hx := HR.box9 HT1.out rfl
  have s0 := cell_blk hx 0 _ rfl
  have s1 := cell_blk hx 1 _ rfl
  have s2 := cell_blk hx 2 _ rfl
  have s3 := cell_blk hx 3 _ rfl
  have s4 := cell_blk hx 4 _ rfl
  have s5 := cell_blk hx 5 _ rfl
  have s6 := cell_blk hx 6 _ rfl
  have s7 := cell_blk hx 7 _ rfl
  have s8 := cell_blk hx 8 _ rfl
  exact bodyPost_ret (v := .tuple #[.agg #[.int .i64 P.id, .int .i64 P.leader, .int .i64 P.epoch, .int .i64 P.ver, .slice u1 P.isr.length z1, .slice u2 P.reps.length z2, .slice u3 P.add.length z3, .slice u4 P.rem.length z4, .int .i64 P.min], .bool true]) (by simp [results, Tryz.results30, go_sem, s0, s1, s2, s3, s4, s5, s6, s7, s8]) rfl ⟨_, rfl, HP1.out.kept HN1.out (fun k hk => HR.other k (by have := (Array.getElem?_eq_some_iff.1 HB.out).1; omega)) (by rw [HR.size]; exact Nat.le_refl _), HN1.out.mono (fun k hk => by have := (Array.getElem?_eq_some_iff.1 HB.out).1; omega), HR.below HBW.out (Nat.le_refl _)⟩
theorem ImC.tick {w : World} {L : Nat → Prop} {q b : Nat} {vt vp ve : Value} {ps : List (Value × Pt)} {I : Im} (h : ImC w L q b vt vp ve ps I) (ha : I.applied < 1000000000000) : ImC (w.setCell ⟨q, 0, none⟩ (.int .i64 (I.applied + 1))) L q b vt vp ve ps (nextI I) := by
  have hk : ∀ k, k ≠ q → (w.setCell ⟨q, 0, none⟩ (.int .i64 (I.applied + 1))).heap[k]? = w.heap[k]? := fun k hk => Below.heap_setCell _ _ _ _ hk
  refine ⟨set_box h.cells, ?_, row_kept h.tops (fun k e => hk k (fun e2 => h.ne_q.1 (by rw [← e2]; exact e))), row_kept h.parts (fun k e => hk k (fun e2 => h.ne_q.2.1 (by rw [← e2]; exact e))), row_kept h.eps (fun k e => hk k (fun e2 => h.ne_q.2.2 (by rw [← e2]; exact e))), fun x hx => ?_, h.abs, fun k hk2 => by simpa using h.lists k hk2, ⟨h.ok.keys, h.ok.brs, h.ok.parts, h.ok.few, h.ok.tops, h.ok.name, h.ok.nums, h.ok.eps, h.ok.epv, ?_⟩⟩
  · obtain ⟨es, clock, hm, r⟩ := h.bmap
    exact ⟨es, clock, (hk b (fun e => h.ne_qb e.symm)).trans hm, r⟩
  · obtain ⟨h1, h2⟩ := h.each x hx
    exact ⟨h1.kept h2 (fun k hk2 => hk k (fun e => (h.lists k hk2).2 (.inl e))) (by simp), h2⟩
  · have := h.ok.app
    unfold nextI
    simp only
    omega
/-- Where a record's list lies. -/
def InR (X : Nat → Prop) (v : Value) (r : Rc) : Prop := ∀ k a b c d n t lv, v = .agg #[k, a, b, c, d, n, t, lv] → In X lv r.list
theorem enter_kind (k : Int) (vs : Array Value) (W : World) (hv : vs.size = 2) : Sem.run Tryz.prog (callFunc (kindF k) vs) W = .ok (.enter (kindF k) vs) W := by
  unfold kindF
  split
  · kernel_rfl
  · split
    · kernel_rfl
    · split
      · kernel_rfl
      · split
        · kernel_rfl
        · split
          · kernel_rfl
          · split
            · kernel_rfl
            · kernel_rfl
set_option maxHeartbeats 3200000 in
theorem apply_of {w : World} {Z : Nat → Prop} {q : Nat} {I : Im} (hi : Img w Z q I) {v : Value} {r : Rc} (hr : RecM w v r) (hnz : InR (fun k => ¬ Z k) v r) (ha : I.applied < 1000000000000)
    (H : ∀ W, Img W Z q (nextI I) → RecM W v r → Calls Tryz.prog (kindF r.kind) #[.pointer (some ⟨q, 0, none⟩), v] W fun e w' => e = .returned (.tuple #[.int .i64 (doI (nextI I) r).2.1, .int .i64 (doI (nextI I) r).2.2]) ∧ IAfter Z W w' q (doI (nextI I) r).1) :
    Calls Tryz.prog 12 #[.pointer (some ⟨q, 0, none⟩), v] w fun e w' => e = .returned (.tuple #[.int .i64 (applyI I r).2.1, .int .i64 (applyI I r).2.2]) ∧ IAfter Z w w' q (applyI I r).1 := by
  show Calls Tryz.prog 12 #[.pointer (some ⟨q, 0, none⟩), v] w fun e w' => e = .returned (.tuple #[.int .i64 (doI (nextI I) r).2.1, .int .i64 (doI (nextI I) r).2.2]) ∧ IAfter Z w w' q (doI (nextI I) r).1
  generalize doI (nextI I) r = R at *
  obtain ⟨L, b, vt, vp, ve, ps, h, hz1, hz2, hz3⟩ := hi
  obtain ⟨⟨lv, rfl, hil⟩, ok, hname⟩ := hr
  have hqlt : q < w.heap.size := h.lt (.inl rfl)
  have hl1 : IL (w.setCell ⟨q, 0, none⟩ (.int .i64 (I.applied + 1))) lv r.list := hil.kept (hnz _ _ _ _ _ _ _ _ rfl) (fun k hk => Below.heap_setCell _ _ _ _ (fun e => hk (by rw [e]; exact hz1 q (.inl rfl)))) (by simp)
  obtain ⟨⟨la, lc, rfl, _⟩, _⟩ := hil
  obtain ⟨rk, ra, rb, rc, rd, rn, rt, rl⟩ := r
  simp only at ok hname H hl1 ⊢
  have HKD := hid (fun V => kind_any rk V ok.kind)
  have hbA : Below w.heap.size (w.setCell ⟨q, 0, none⟩ (.int .i64 (I.applied + 1))) ((w.setCell ⟨q, 0, none⟩ (.int .i64 (I.applied + 1))).alloc (.cells #[.int .i64 rk, .int .i64 ra, .int .i64 rb, .int .i64 rc, .int .i64 rd, .string rn, .string rt, .slice la rl.length lc] 34)) := by
    have := (Below.refl (w.setCell ⟨q, 0, none⟩ (.int .i64 (I.applied + 1))).heap.size (w.setCell ⟨q, 0, none⟩ (.int .i64 (I.applied + 1)))).alloc (Nat.le_refl _) (.cells #[.int .i64 rk, .int .i64 ra, .int .i64 rb, .int .i64 rc, .int .i64 rd, .string rn, .string rt, .slice la rl.length lc] 34)
    simpa using this
  have hbA' : Below (w.setCell ⟨q, 0, none⟩ (.int .i64 (I.applied + 1))).heap.size (w.setCell ⟨q, 0, none⟩ (.int .i64 (I.applied + 1))) ((w.setCell ⟨q, 0, none⟩ (.int .i64 (I.applied + 1))).alloc (.cells #[.int .i64 rk, .int .i64 ra, .int .i64 rb, .int .i64 rc, .int .i64 rd, .string rn, .string rt, .slice la rl.length lc] 34)) := by simpa using hbA
  have hT := (h.tick ha).under hbA'
  have hK : Keeps Z w ((w.setCell ⟨q, 0, none⟩ (.int .i64 (I.applied + 1))).alloc (.cells #[.int .i64 rk, .int .i64 ra, .int .i64 rb, .int .i64 rc, .int .i64 rd, .string rn, .string rt, .slice la rl.length lc] 34)) := (Keeps.set (S := Z) w (a := ⟨q, 0, none⟩) (hz1 q (.inl rfl)) _).trans (Keeps.of_below (S := Z) hbA') (fun x hx => .inl hx)
  have hIM : Img ((w.setCell ⟨q, 0, none⟩ (.int .i64 (I.applied + 1))).alloc (.cells #[.int .i64 rk, .int .i64 ra, .int .i64 rb, .int .i64 rc, .int .i64 rd, .string rn, .string rt, .slice la rl.length lc] 34)) Z q (nextI I) := ⟨L, b, vt, vp, ve, ps, hT, hz1, hz2, fun k hk => by have := hz3 k hk; simp; omega⟩
  have hIL : RecM ((w.setCell ⟨q, 0, none⟩ (.int .i64 (I.applied + 1))).alloc (.cells #[.int .i64 rk, .int .i64 ra, .int .i64 rb, .int .i64 rc, .int .i64 rd, .string rn, .string rt, .slice la rl.length lc] 34)) (.agg #[.int .i64 rk, .int .i64 ra, .int .i64 rb, .int .i64 rc, .int .i64 rd, .string rn, .string rt, .slice la rl.length lc]) ⟨rk, ra, rb, rc, rd, rn, rt, rl⟩ := ⟨⟨_, rfl, hl1.under hbA'⟩, ok, hname⟩
  have HC := hid (H _ hIM hIL)
  have HA : Hid (∀ w', IAfter Z ((w.setCell ⟨q, 0, none⟩ (.int .i64 (I.applied + 1))).alloc (.cells #[.int .i64 rk, .int .i64 ra, .int .i64 rb, .int .i64 rc, .int .i64 rd, .string rn, .string rt, .slice la rl.length lc] 34)) w' q R.1 → IAfter Z w w' q R.1) := fun w' hw => IAfter.trans hIM (fun k hk => .inl hk) hK hw
  have c0 := h.c0
  have f0 := h.fz 0
  have happ := h.ok.app
  have hwr : IntKind.i64.wrap (I.applied + 1) = I.applied + 1 := IntWalk.i64_in _ ⟨by omega, by omega⟩
  have hne : ¬ q = w.heap.size := by omega
  have hen := enter_kind rk #[.pointer (some ⟨q, 0, none⟩), .agg #[.int .i64 rk, .int .i64 ra, .int .i64 rb, .int .i64 rc, .int .i64 rd, .string rn, .string rt, .slice la rl.length lc]] ((w.setCell ⟨q, 0, none⟩ (.int .i64 (I.applied + 1))).alloc (.cells #[.int .i64 rk, .int .i64 ra, .int .i64 rb, .int .i64 rc, .int .i64 rd, .string rn, .string rt, .slice la rl.length lc] 34)) rfl
  generalize kindF rk = kf at *
  clear h hT hK hIM hIL H hbA hbA' hl1 hnz hz1 hz2 hz3 ok happ ha
  go_enter Tryz.func12, Tryz.ntmps12
  go_wp2_with (first | (go_at_call 32; refine (HKD.out _).mono ?_; rintro e w9 ⟨rfl, rfl⟩))
  refine HC.out.mono ?_
  rintro e w1 ⟨rfl, h1⟩
  have H1 := hid (HA.out w1 h1)
  clear h1
  go_wp2_with fail
  go_ret2
  exact ⟨rfl, H1.out⟩
end Go.Proofs.YtcffomhcmilcpaaGreat
