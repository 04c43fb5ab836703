/- A broker is up. -/
import Derived.Test.YtcffomhcmilcpaaGreatA13
namespace Go.Proofs.YtcffomhcmilcpaaGreat
open Go.RowKit Go.Maps
set_option maxRecDepth 100000
set_option linter.unusedSimpArgs false
set_option linter.unusedVariables false

set_option maxHeartbeats 6400000 in
theorem kunfence_any {w : World} {Z : Nat → Prop} {q : Nat} {I : Im} (hi : Img w Z q I) {v : Value} {r : Rc} (hr : RecM w v r) : Calls Tryz.prog 70 #[.pointer (some ⟨q, 0, none⟩), v] w fun e w' => e = .returned (.tuple #[.int .i64 (unfenceI I r).2.1, .int .i64 (unfenceI I r).2.2]) ∧ IAfter Z w w' q (unfenceI I r).1 := by
  obtain ⟨L, b, vt, vp, ve, ps, h, hz1, hz2, hz3⟩ := hi
  have HIMG : Hid (Img w Z q I) := ⟨L, b, vt, vp, ve, ps, h, hz1, hz2, hz3⟩
  have HRM := hid hr
  obtain ⟨⟨lv, rfl, hil⟩, ok, hname⟩ := hr
  obtain ⟨⟨la, lc, rfl, _⟩, _⟩ := hil
  obtain ⟨rk, ra, rb, rc, rd, rn, rt, rl⟩ := r
  simp only at ok hname HRM ⊢
  have oka := ok.a
  have okb := ok.b
  have okc := ok.c
  simp only at oka okb okc
  have hbA : Below w.heap.size w (w.alloc (.cells #[.int .i64 rk, .int .i64 ra, .int .i64 rb, .int .i64 rc, .int .i64 rd, .string rn, .string rt, .slice la rl.length lc] 34)) := (Below.refl _ _).alloc (Nat.le_refl _) _
  have HBA := hid hbA
  have HI := hid (h.under hbA)
  have HRM1 := hid (HRM.out.under hbA)
  have HIO : Hid (∀ w' J, IOut L (w.alloc (.cells #[.int .i64 rk, .int .i64 ra, .int .i64 rb, .int .i64 rc, .int .i64 rd, .string rn, .string rt, .slice la rl.length lc] 34)) w' q b vt vp ve J → IAfter Z w w' q J) := fun w' J hJ => hJ.after HIMG.out hz1 hz2 hbA
  have HIS : Hid (∀ w', Below (w.alloc (.cells #[.int .i64 rk, .int .i64 ra, .int .i64 rb, .int .i64 rc, .int .i64 rd, .string rn, .string rt, .slice la rl.length lc] 34)).heap.size (w.alloc (.cells #[.int .i64 rk, .int .i64 ra, .int .i64 rb, .int .i64 rc, .int .i64 rd, .string rn, .string rt, .slice la rl.length lc] 34)) w' → IAfter Z w w' q I) := fun w' hb => HIMG.out.after (hbA.trans (hb.mono hbA.size))
  have hB := heap_alloc_new w (.cells #[.int .i64 rk, .int .i64 ra, .int .i64 rb, .int .i64 rc, .int .i64 rd, .string rn, .string rt, .slice la rl.length lc] 34)
  have hqlt : q < w.heap.size := h.lt (.inl rfl)
  have HOW : Hid (∀ k, Own q b vt vp ve k → k < w.heap.size) := fun k hk => h.lt hk
  have hWs : (w.alloc (.cells #[.int .i64 rk, .int .i64 ra, .int .i64 rb, .int .i64 rc, .int .i64 rd, .string rn, .string rt, .slice la rl.length lc] 34)).heap.size = w.heap.size + 1 := by simp
  have a0 := cell_blk hB 0 _ rfl
  have a1 := cell_blk hB 1 _ rfl
  have a2 := cell_blk hB 2 _ rfl
  have a3 := cell_blk hB 3 _ rfl
  have a4 := cell_blk hB 4 _ rfl
  have a5 := cell_blk hB 5 _ rfl
  have a6 := cell_blk hB 6 _ rfl
  have a7 := cell_blk hB 7 _ rfl
  have HBX := hid hB
  clear hbA hB h hz1 hz2 hz3 ok
  have HRF := hid (refused_any HI.out HRM1.out true)
  have HF : Hid (unfenceI I ⟨rk, ra, rb, rc, rd, rn, rt, rl⟩ = if refusedI I ⟨rk, ra, rb, rc, rd, rn, rt, rl⟩ true ≠ 0 then (I, 0, refusedI I ⟨rk, ra, rb, rc, rd, rn, rt, rl⟩ true) else ({ I with brs := putB I.brs ra ⟨rb, true⟩, parts := I.parts.map (stepP fun p => backP p ra) }, ra, 0)) := rfl
  have hcode := refused_code I ⟨rk, ra, rb, rc, rd, rn, rt, rl⟩ true
  unfold I64 at hcode
  by_cases h0 : refusedI I ⟨rk, ra, rb, rc, rd, rn, rt, rl⟩ true = 0
  · rw [if_neg (by simp [h0])] at HF
    obtain ⟨q1, q2, q3, q4⟩ := refused_zero h0
    simp only at q1 q2 q3
    rw [h0] at HRF
    have hlife := val_life HI.out.ok q2
    rw [← q3] at hlife
    have HPU : Hid (∀ V, Below (w.alloc (.cells #[.int .i64 rk, .int .i64 ra, .int .i64 rb, .int .i64 rc, .int .i64 rd, .string rn, .string rt, .slice la rl.length lc] 34)).heap.size (w.alloc (.cells #[.int .i64 rk, .int .i64 ra, .int .i64 rb, .int .i64 rc, .int .i64 rd, .string rn, .string rt, .slice la rl.length lc] 34)) V → ∃ w', (Instr.mapUpdate 67 (.map (some b)) (.int .i64 ra) (.agg #[.int .i64 rb, .bool true])).run Tryz.prog V = .ok () w' ∧ ImC w' L q b vt vp ve ps { I with brs := putB I.brs ra ⟨rb, true⟩ } ∧ V.grownBy w' (some b)) := fun V hV => (HI.out.under hV).put (n := ra) (x := ⟨rb, true⟩) q1 hlife
    have HUP0 : Hid (∀ V w' J, Keeps (Own q b vt vp ve) (w.alloc (.cells #[.int .i64 rk, .int .i64 ra, .int .i64 rb, .int .i64 rc, .int .i64 rd, .string rn, .string rt, .slice la rl.length lc] 34)) V → IOut L V w' q b vt vp ve J → IAfter Z w w' q J) := fun V w' J hV hJ => HIO.out w' J (by
      obtain ⟨L', ps', i1, i2, i3⟩ := hJ
      exact ⟨L', ps', i1, fun j hj => (i2 j hj).elim .inl (fun h => .inr (Nat.le_trans hV.size h)), hV.trans i3 (fun x hx => .inl hx)⟩)
    rw [HF.out]
    clear h0 q2 q3 q4 hcode
    obtain ⟨q1a, q1b⟩ := q1
    generalize putB I.brs ra ⟨rb, true⟩ = bs at *
    go_enter Tryz.func70, Tryz.ntmps70
    go_wp2_with fail
    generalize w.alloc (.cells #[.int .i64 rk, .int .i64 ra, .int .i64 rb, .int .i64 rc, .int .i64 rd, .string rn, .string rt, .slice la rl.length lc] 34) = W at *
    obtain ⟨x, hx⟩ : ∃ x, x = w.heap.size := ⟨_, rfl⟩
    rw [← hx] at a0 a1 a2 a3 a4 a5 a6 a7 hWs hqlt HBX HOW ⊢
    clear hx

    refine HRF.out.mono ?_
    rintro e w1 ⟨rfl, hb1⟩
    obtain ⟨w2, hup, hI2, hg2⟩ := HPU.out w1.drew hb1.drew
    have HI2 := hid hI2
    have HK2 : Hid (Keeps (Own q b vt vp ve) W w2) := (Keeps.of_below hb1.drew).trans (Keeps.of_grown (S := Own q b vt vp ve) hg2 (fun k hk => by cases hk; exact .inr (.inl rfl))) (fun x hx => .inl hx)
    have b1 := kept_cell hb1 a1
    have b2 := kept_cell hb1 a2
    have c1 := (HI.out.under hb1).c1
    clear hb1 HPU HRF a0 a1 a2 a3 a4 a5 a6 a7 hI2 hg2
    go_wp2_with fail
    go_cut [] from 15 to 23 (fun V => V = w2)
    case first =>
      go_region_with (fail)
      all_goals
        go_wp2_with fail
        go_meet
        case rel => rfl
    case rest =>
      subst hcut
      clear hup b1 b2 c1
      have HBL : Hid (∀ wr, Keeps (Own q b vt vp ve) wc wr → wr.heap[x]? = some (.cells #[.int .i64 rk, .int .i64 ra, .int .i64 rb, .int .i64 rc, .int .i64 rd, .string rn, .string rt, .slice la rl.length lc] 34)) := fun wr hk => by
        have h1 := (HK2.out.block x (by omega) (fun ho => by have := HOW.out x ho; omega)).trans HBX.out
        exact (hk.block x (Array.getElem?_eq_some_iff.1 h1).1 (fun ho => by have := HOW.out x ho; omega)).trans h1
      have HUP := hid (fun w' J => HUP0.out wc w' J HK2.out)
      have HI1 := HI2
      clear HI2 HUP0 HK2 HBX
      obtain ⟨oa, cap, hvp, hcap, hcm, hnn, hat⟩ := row_shape HI1.out.parts
      have hpl := HI1.out.plen
      simp only at hpl
      rw [← hpl] at hvp hcap hat
      subst hvp
      have c3 := HI1.out.c3
      have HJ : Hid ((({ I with brs := bs } : Im)).parts = I.parts) := rfl
      obtain ⟨J, hJ⟩ : ∃ J, J = ({ I with brs := bs } : Im) := ⟨_, rfl⟩
      rw [← hJ] at HI1 HJ
      have HJJ := hid hJ
      clear hJ hpl hcap hcm hnn
      have hf16 : I.parts.length ≤ 16 := by have := HI1.out.ok.few; rw [HJ.out] at this; exact this
      generalize wc = W1 at *
      go_wp2_with fail
      go_loopg [29] I.parts.length (fun kx s wr => ∃ k : Nat, k ≤ I.parts.length ∧ I.parts.length - k ≤ kx ∧ s = .int .i64 (k : Int) ∧ Hid (LoopP W1 wr L q b vt (.slice oa I.parts.length cap) ve J (fun p => backP p ra) k))
      case atStart => exact ⟨0, Nat.zero_le _, by omega, rfl, LoopP.start HI1.out⟩
      case round =>
        obtain ⟨k, hk, hkx, rfl, HK⟩ := hrel
        by_cases hlt : k < I.parts.length
        · obtain ⟨g, rfl⟩ := hat (by omega)
          have hltJ : k < J.parts.length := by rw [HJ.out]; exact hlt
          obtain ⟨x, hx, hxc⟩ := HK.out.at_ hltJ
          have HPM := hid hx
          obtain ⟨a1, c1, a2, c2, a3, c3, a4, c4, rfl, _⟩ := hx.open
          have hrp : RightP J.parts[k] ∧ J.parts[k].id = (k : Int) + 1 := HI1.out.ok.parts k _ (List.getElem?_eq_getElem hltJ)
          have HNX : Hid (∀ W v r, Below wr.heap.size wr W → r = ((fun p => backP p ra)) J.parts[k] → PartM W v r.1 → InP (fun j => wr.heap.size ≤ j) v r.1 → Calls Tryz.prog 117 #[.pointer (some ⟨q, 0, none⟩), v, .int .i64 r.2] W fun e w' => e = .returned (.tuple #[]) ∧ LoopP W1 w' L q b vt (.slice (some ⟨g, 0, none⟩) I.parts.length cap) ve J (fun p => backP p ra) (k + 1)) := fun W v r hb hr hv hX => HK.out.next hltJ hb hr hv hX (by rw [hr]; exact back_code _ _) (fun h0 => by
            rw [hr] at h0
            obtain ⟨j1, j2⟩ := back_ok hrp.1 h0
            rw [hr]
            exact ⟨j1, by rw [← hrp.2]; exact j2⟩)
          have HKK := hid HK.out.keeps
          have x1 := cell_blk (HBL.out wr HKK.out) 1 _ rfl
          have hxl : x < wr.heap.size := (Array.getElem?_eq_some_iff.1 (HBL.out wr HKK.out)).1
          have hxn : ¬ x = wr.heap.size := by omega
          clear hrp HK
          generalize J.parts[k] = P at *
          have r0 := hxc 0 (by decide) _ rfl
          have r1 := hxc 1 (by decide) _ rfl
          have r2 := hxc 2 (by decide) _ rfl
          have r3 := hxc 3 (by decide) _ rfl
          have r4 := hxc 4 (by decide) _ rfl
          have r5 := hxc 5 (by decide) _ rfl
          have r6 := hxc 6 (by decide) _ rfl
          have r7 := hxc 7 (by decide) _ rfl
          have r8 := hxc 8 (by decide) _ rfl
          rw [Nat.add_zero] at r0
          have hlt' : (k : Int) < (I.parts.length : Int) := by omega
          clear hxc hx
          have HB := hid (heap_alloc_new wr (.cells #[.int .i64 P.id, .int .i64 P.leader, .int .i64 P.epoch, .int .i64 P.ver, .slice a1 P.isr.length c1, .slice a2 P.reps.length c2, .slice a3 P.add.length c3, .slice a4 P.rem.length c4, .int .i64 P.min] 54))
          have HBW : Hid (Below wr.heap.size wr (wr.alloc (.cells #[.int .i64 P.id, .int .i64 P.leader, .int .i64 P.epoch, .int .i64 P.ver, .slice a1 P.isr.length c1, .slice a2 P.reps.length c2, .slice a3 P.add.length c3, .slice a4 P.rem.length c4, .int .i64 P.min] 54))) := (Below.refl _ _).alloc (Nat.le_refl _) _
          have HDE := hid ((back_any (HPM.out.under HBW.out) ra (by unfold I64; omega)))
          go_wp2_with fail
          refine HDE.out.mono ?_
          rintro e W2 ⟨v2, rfl, hv2, hX2, hb2⟩
          have HC := hid (HNX.out W2 v2 _ (HBW.out.trans (hb2.mono HBW.out.size)) rfl hv2 (hX2.mono (fun j hj => Nat.le_trans HBW.out.size hj)))
          obtain ⟨z1, d1, z2, d2, z3, d3, z4, d4, rfl, _⟩ := hv2.open
          clear hv2 hX2 hb2 HDE HNX HPM r0 r1 r2 r3 r4 r5 r6 r7 r8 HB HBW
          go_wp2_with fail
          refine HC.out.mono ?_
          rintro e W3 ⟨rfl, hL3⟩
          have HL3 := hid hL3
          clear hL3 HC
          go_wp2_with fail
          go_roundg (I.parts.length - (k + 1))
          case measure => omega
          case rel => exact ⟨k + 1, by omega, Nat.le_refl _, by go_num, HL3.out⟩
        · have hlt' : ¬ (k : Int) < (I.parts.length : Int) := by omega
          have HKE := HK
          have x1 := cell_blk (HBL.out wr HKE.out.keeps) 1 _ rfl
          clear HK
          go_wp2_with fail
          go_ret2
          refine ⟨rfl, HUP.out wr _ ?_⟩
          obtain ⟨⟨L', ps', i1, i2⟩, i3⟩ := HKE.out
          rw [stepK_all _ _ _ (by rw [HJ.out]; omega)] at i1
          refine ⟨L', ps', ?_, i2, i3⟩
          rw [HJJ.out] at i1
          exact i1
  · rw [if_pos h0] at HF
    rw [HF.out]
    generalize refusedI I ⟨rk, ra, rb, rc, rd, rn, rt, rl⟩ true = R at *
    have h0' : (R != 0) = true := by simp [h0]
    go_enter Tryz.func70, Tryz.ntmps70
    go_wp2_with fail
    generalize w.alloc (.cells #[.int .i64 rk, .int .i64 ra, .int .i64 rb, .int .i64 rc, .int .i64 rd, .string rn, .string rt, .slice la rl.length lc] 34) = W at *
    obtain ⟨x, hx⟩ : ∃ x, x = w.heap.size := ⟨_, rfl⟩
    rw [← hx] at a0 a1 a2 a3 a4 a5 a6 a7 hWs hqlt HBX HOW ⊢
    clear hx

    refine HRF.out.mono ?_
    rintro e w1 ⟨rfl, hb1⟩
    have HO := hid (HIS.out w1 hb1)
    clear hb1
    go_wp2_with fail
    go_ret2
    exact ⟨rfl, HO.out⟩
end Go.Proofs.YtcffomhcmilcpaaGreat
