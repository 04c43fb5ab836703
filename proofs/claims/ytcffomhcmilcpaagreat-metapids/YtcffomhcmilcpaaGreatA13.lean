/- A broker is fenced. -/
import Derived.Test.YtcffomhcmilcpaaGreatA12
namespace Go.Proofs.YtcffomhcmilcpaaGreat
open Go.RowKit Go.Maps
set_option maxRecDepth 100000
set_option linter.unusedSimpArgs false
set_option linter.unusedVariables false

theorem IOut.after {L : Nat → Prop} {w W w' : World} {q b : Nat} {vt vp ve : Value} {J I : Im} {Z : Nat → Prop} (h : IOut L W w' q b vt vp ve J) (h0 : Img w Z q I) (h1 : ∀ k, Own q b vt vp ve k → Z k) (h2 : ∀ k, L k → Z k) (hb : Below w.heap.size w W) : IAfter Z w w' q J := by
  obtain ⟨L', ps', i1, i2, i3⟩ := h
  exact ImC.after (L := L) (b := b) (vt := vt) (vp := vp) (ve := ve) (ps := ps') (I := I) h0 i1 (fun k hk => .inl (h1 k hk)) (fun k hk => (i2 k hk).elim (fun h => .inl (h2 k h)) (fun h => .inr (Nat.le_trans hb.size h))) ((Keeps.of_below hb).trans i3 (fun x hx => .inl (h1 x hx)))
theorem val_life {I : Im} (h : ImOk I) {n : Int} (hs : (getB I.brs n).isNone = false) : 1 ≤ (valB I.brs n).life ∧ (valB I.brs n).life ≤ 1000000000 := by
  unfold valB
  cases hg : getB I.brs n with
  | none => rw [hg] at hs; cases hs
  | some y => exact (h.brs _ (getB_mem hg)).2
theorem refused_zero {I : Im} {r : Rc} {up : Bool} (h : refusedI I r up = 0) : (1 ≤ r.a ∧ r.a ≤ 7) ∧ (getB I.brs r.a).isNone = false ∧ r.b = (valB I.brs r.a).life ∧ (valB I.brs r.a).up ≠ up := by
  unfold refusedI at h
  split at h
  · omega
  · rename_i h1
    split at h
    · omega
    · rename_i h2
      split at h
      · omega
      · rename_i h3
        split at h
        · omega
        · rename_i h4
          refine ⟨?_, by cases hg : getB I.brs r.a with | none => simp [hg] at h2 | some y => rfl, by simpa using h3, h4⟩
          simp [upB] at h1
          omega
theorem refused_code (I : Im) (r : Rc) (up : Bool) : I64 (refusedI I r up) := by
  unfold refusedI I64
  split
  · omega
  · split
    · omega
    · split
      · omega
      · split <;> omega
set_option maxHeartbeats 6400000 in
theorem kfence_any {w : World} {Z : Nat → Prop} {q : Nat} {I : Im} (hi : Img w Z q I) {v : Value} {r : Rc} (hr : RecM w v r) : Calls Tryz.prog 69 #[.pointer (some ⟨q, 0, none⟩), v] w fun e w' => e = .returned (.tuple #[.int .i64 (fenceI I r).2.1, .int .i64 (fenceI I r).2.2]) ∧ IAfter Z w w' q (fenceI I r).1 := by
  obtain ⟨L, b, vt, vp, ve, ps, h, hz1, hz2, hz3⟩ := hi
  have HIMG : Hid (Img w Z q I) := ⟨L, b, vt, vp, ve, ps, h, hz1, hz2, hz3⟩
  have HRM := hid hr
  obtain ⟨⟨lv, rfl, hil⟩, ok, hname⟩ := hr
  obtain ⟨⟨la, lc, rfl, _⟩, _⟩ := hil
  obtain ⟨rk, ra, rb, rc, rd, rn, rt, rl⟩ := r
  simp only at ok hname HRM ⊢
  have oka := ok.a
  have okb := ok.b
  have okc := ok.c
  simp only at oka okb okc
  have hbA : Below w.heap.size w (w.alloc (.cells #[.int .i64 rk, .int .i64 ra, .int .i64 rb, .int .i64 rc, .int .i64 rd, .string rn, .string rt, .slice la rl.length lc] 34)) := (Below.refl _ _).alloc (Nat.le_refl _) _
  have HBA := hid hbA
  have HI := hid (h.under hbA)
  have HRM1 := hid (HRM.out.under hbA)
  have HIO : Hid (∀ w' J, IOut L (w.alloc (.cells #[.int .i64 rk, .int .i64 ra, .int .i64 rb, .int .i64 rc, .int .i64 rd, .string rn, .string rt, .slice la rl.length lc] 34)) w' q b vt vp ve J → IAfter Z w w' q J) := fun w' J hJ => hJ.after HIMG.out hz1 hz2 hbA
  have HIS : Hid (∀ w', Below (w.alloc (.cells #[.int .i64 rk, .int .i64 ra, .int .i64 rb, .int .i64 rc, .int .i64 rd, .string rn, .string rt, .slice la rl.length lc] 34)).heap.size (w.alloc (.cells #[.int .i64 rk, .int .i64 ra, .int .i64 rb, .int .i64 rc, .int .i64 rd, .string rn, .string rt, .slice la rl.length lc] 34)) w' → IAfter Z w w' q I) := fun w' hb => HIMG.out.after (hbA.trans (hb.mono hbA.size))
  have hB := heap_alloc_new w (.cells #[.int .i64 rk, .int .i64 ra, .int .i64 rb, .int .i64 rc, .int .i64 rd, .string rn, .string rt, .slice la rl.length lc] 34)
  have hqlt : q < w.heap.size := h.lt (.inl rfl)
  have HOW : Hid (∀ k, Own q b vt vp ve k → k < w.heap.size) := fun k hk => h.lt hk
  have hWs : (w.alloc (.cells #[.int .i64 rk, .int .i64 ra, .int .i64 rb, .int .i64 rc, .int .i64 rd, .string rn, .string rt, .slice la rl.length lc] 34)).heap.size = w.heap.size + 1 := by simp
  have a0 := cell_blk hB 0 _ rfl
  have a1 := cell_blk hB 1 _ rfl
  have a2 := cell_blk hB 2 _ rfl
  have a3 := cell_blk hB 3 _ rfl
  have a4 := cell_blk hB 4 _ rfl
  have a5 := cell_blk hB 5 _ rfl
  have a6 := cell_blk hB 6 _ rfl
  have a7 := cell_blk hB 7 _ rfl
  have HBX := hid hB
  clear hbA hB h hz1 hz2 hz3 ok
  have HRF := hid (refused_any HI.out HRM1.out false)
  have HF : Hid (fenceI I ⟨rk, ra, rb, rc, rd, rn, rt, rl⟩ = if refusedI I ⟨rk, ra, rb, rc, rd, rn, rt, rl⟩ false ≠ 0 then (I, 0, refusedI I ⟨rk, ra, rb, rc, rd, rn, rt, rl⟩ false) else (putOffI I ra, ra, 0)) := rfl
  have hcode := refused_code I ⟨rk, ra, rb, rc, rd, rn, rt, rl⟩ false
  unfold I64 at hcode
  by_cases h0 : refusedI I ⟨rk, ra, rb, rc, rd, rn, rt, rl⟩ false = 0
  · rw [if_neg (by simp [h0])] at HF
    obtain ⟨q1, q2, q3, q4⟩ := refused_zero h0
    simp only at q1 q2
    rw [h0] at HRF
    have HP : Hid (∀ V, Below (w.alloc (.cells #[.int .i64 rk, .int .i64 ra, .int .i64 rb, .int .i64 rc, .int .i64 rd, .string rn, .string rt, .slice la rl.length lc] 34)).heap.size (w.alloc (.cells #[.int .i64 rk, .int .i64 ra, .int .i64 rb, .int .i64 rc, .int .i64 rd, .string rn, .string rt, .slice la rl.length lc] 34)) V → Calls Tryz.prog 115 #[.pointer (some ⟨q, 0, none⟩), .int .i64 ra] V fun e w' => e = .returned (.tuple #[]) ∧ IOut L V w' q b vt vp ve (putOffI I ra)) := fun V hV => putOff_any (HI.out.under hV) ra q1 (val_life HI.out.ok q2)
    have HUP : Hid (∀ V w' J, Below (w.alloc (.cells #[.int .i64 rk, .int .i64 ra, .int .i64 rb, .int .i64 rc, .int .i64 rd, .string rn, .string rt, .slice la rl.length lc] 34)).heap.size (w.alloc (.cells #[.int .i64 rk, .int .i64 ra, .int .i64 rb, .int .i64 rc, .int .i64 rd, .string rn, .string rt, .slice la rl.length lc] 34)) V → IOut L V w' q b vt vp ve J → IAfter Z w w' q J) := fun V w' J hV hJ => HIO.out w' J (by
      obtain ⟨L', ps', i1, i2, i3⟩ := hJ
      exact ⟨L', ps', i1, fun j hj => (i2 j hj).elim .inl (fun h => .inr (Nat.le_trans hV.size h)), (Keeps.of_below hV).trans i3 (fun x hx => .inl hx)⟩)
    rw [HF.out]
    clear h0 q1 q2 q3 q4 hcode
    go_enter Tryz.func69, Tryz.ntmps69
    go_wp2_with fail
    generalize w.alloc (.cells #[.int .i64 rk, .int .i64 ra, .int .i64 rb, .int .i64 rc, .int .i64 rd, .string rn, .string rt, .slice la rl.length lc] 34) = W at *
    obtain ⟨x, hx⟩ : ∃ x, x = w.heap.size := ⟨_, rfl⟩
    rw [← hx] at a0 a1 a2 a3 a4 a5 a6 a7 hWs hqlt HBX HOW ⊢
    clear hx

    refine HRF.out.mono ?_
    rintro e w1 ⟨rfl, hb1⟩
    have b1 := kept_cell hb1 a1
    have HP1 := hid (HP.out w1 hb1)
    have HU1 := hid (fun w' J => HUP.out w1 w' J hb1)
    have HBX1 := hid ((hb1.block x (by omega)).trans HBX.out)
    clear hb1 HP HUP HRF a0 a1 a2 a3 a4 a5 a6 a7
    go_wp2_with fail
    refine HP1.out.mono ?_
    rintro e w2 ⟨rfl, hO⟩
    have c1 : w2.cell? ⟨x, 1, none⟩ = some (.int .i64 ra) := by
      obtain ⟨_, _, _, _, i3⟩ := hO
      exact cell_blk ((i3.block x (Array.getElem?_eq_some_iff.1 HBX1.out).1 (fun ho => by have := HOW.out x ho; omega)).trans HBX1.out) 1 _ rfl
    have HO := hid (HU1.out w2 _ hO)
    clear hO
    go_wp2_with fail
    go_ret2
    exact ⟨rfl, HO.out⟩
  · rw [if_pos h0] at HF
    rw [HF.out]
    generalize refusedI I ⟨rk, ra, rb, rc, rd, rn, rt, rl⟩ false = R at *
    have h0' : (R != 0) = true := by simp [h0]
    go_enter Tryz.func69, Tryz.ntmps69
    go_wp2_with fail
    generalize w.alloc (.cells #[.int .i64 rk, .int .i64 ra, .int .i64 rb, .int .i64 rc, .int .i64 rd, .string rn, .string rt, .slice la rl.length lc] 34) = W at *
    obtain ⟨x, hx⟩ : ∃ x, x = w.heap.size := ⟨_, rfl⟩
    rw [← hx] at a0 a1 a2 a3 a4 a5 a6 a7 hWs hqlt HBX HOW ⊢
    clear hx

    refine HRF.out.mono ?_
    rintro e w1 ⟨rfl, hb1⟩
    have HO := hid (HIS.out w1 hb1)
    clear hb1
    go_wp2_with fail
    go_ret2
    exact ⟨rfl, HO.out⟩
end Go.Proofs.YtcffomhcmilcpaaGreat
