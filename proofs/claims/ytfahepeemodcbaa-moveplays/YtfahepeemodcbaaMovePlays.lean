/- Decision behind decision, a partition's states are what the document's are: any state, any script. -/
import Derived.Test.YtfahepeemodcbaaN16
import Derived.Test.YtfahepeemodcbaaSq
import Derived.Test.YtfahepeemodcbaaRows
import Derived.SizedLaws
namespace Go.Proofs.Ytfahepeemodcbaa
open Go.RowKit Go.Maps
set_option linter.unusedSimpArgs false
set_option linter.unusedVariables false
set_option maxRecDepth 100000

theorem sameP_refl (p : Pt) : sameP p p = true := by simp [sameP]
theorem OneR.open {w w' : World} {r : Pt × Int} {e : Ending} (h : OneR w r e w') : ∃ x1 y1 x2 y2 x3 y3 x4 y4 t1 u1 t2 u2 t3 u3 t4 u4, e = .returned (.tuple #[.agg #[.int .i64 r.1.id, .int .i64 r.1.leader, .int .i64 r.1.epoch, .int .i64 r.1.ver, .slice x1 r.1.isr.length y1, .slice x2 r.1.reps.length y2, .slice x3 r.1.add.length y3, .slice x4 r.1.rem.length y4, .int .i64 r.1.min], .int .i64 r.2, .agg #[.int .i64 r.1.id, .int .i64 r.1.leader, .int .i64 r.1.epoch, .int .i64 r.1.ver, .slice t1 r.1.isr.length u1, .slice t2 r.1.reps.length u2, .slice t3 r.1.add.length u3, .slice t4 r.1.rem.length u4, .int .i64 r.1.min], .int .i64 r.2]) ∧ Hid (PartM w' (.agg #[.int .i64 r.1.id, .int .i64 r.1.leader, .int .i64 r.1.epoch, .int .i64 r.1.ver, .slice x1 r.1.isr.length y1, .slice x2 r.1.reps.length y2, .slice x3 r.1.add.length y3, .slice x4 r.1.rem.length y4, .int .i64 r.1.min]) r.1) ∧ Hid (InP (fun b => w.heap.size ≤ b) (.agg #[.int .i64 r.1.id, .int .i64 r.1.leader, .int .i64 r.1.epoch, .int .i64 r.1.ver, .slice x1 r.1.isr.length y1, .slice x2 r.1.reps.length y2, .slice x3 r.1.add.length y3, .slice x4 r.1.rem.length y4, .int .i64 r.1.min]) r.1) ∧ Hid (PartM w' (.agg #[.int .i64 r.1.id, .int .i64 r.1.leader, .int .i64 r.1.epoch, .int .i64 r.1.ver, .slice t1 r.1.isr.length u1, .slice t2 r.1.reps.length u2, .slice t3 r.1.add.length u3, .slice t4 r.1.rem.length u4, .int .i64 r.1.min]) r.1) ∧ Below w.heap.size w w' := by
  obtain ⟨va, vb, rfl, h1, h2, h3, h4, h5⟩ := h
  obtain ⟨x1, y1, x2, y2, x3, y3, x4, y4, rfl, _⟩ := h1.open
  obtain ⟨t1, u1, t2, u2, t3, u3, t4, u4, rfl, _⟩ := h3.open
  exact ⟨x1, y1, x2, y2, x3, y3, x4, y4, t1, u1, t2, u2, t3, u3, t4, u4, rfl, h1, h2, h3, h5⟩
set_option maxHeartbeats 25600000 in
theorem plays_walk {w : World} {v sv : Value} {p : Pt} {ops : List Opn} (h : PartM w v p) (hs : Script w sv ops) : Calls Try.prog 4 #[v, sv] w fun e w' => e = .returned (.bool true) ∧ Below w.heap.size w w' := by
  obtain ⟨id, ld, ep, vr, isr, reps, add, rem, mn⟩ := p
  obtain ⟨a1, c1, a2, c2, a3, c3, a4, c4, rfl, q1, q2, q3, q4, i0, i1, i2, i3, i4⟩ := h.open
  simp only at q1 q2 q3 q4 i0 i1 i2 i3 i4 ⊢
  have Q1 := hid q1
  have Q2 := hid q2
  have Q3 := hid q3
  have Q4 := hid q4
  clear h q1 q2 q3 q4
  have HX : Hid ((w.alloc (.cells #[.int .i64 id, .int .i64 ld, .int .i64 ep, .int .i64 vr, .slice a1 isr.length c1, .slice a2 reps.length c2, .slice a3 add.length c3, .slice a4 rem.length c4, .int .i64 mn] 24)).heap[w.heap.size]? = some (.cells #[.int .i64 id, .int .i64 ld, .int .i64 ep, .int .i64 vr, .slice a1 isr.length c1, .slice a2 reps.length c2, .slice a3 add.length c3, .slice a4 rem.length c4, .int .i64 mn] 24)) := heap_alloc_new w _
  have HB : Hid (Below w.heap.size w (w.alloc (.cells #[.int .i64 id, .int .i64 ld, .int .i64 ep, .int .i64 vr, .slice a1 isr.length c1, .slice a2 reps.length c2, .slice a3 add.length c3, .slice a4 rem.length c4, .int .i64 mn] 24))) := (Below.refl _ _).alloc (Nat.le_refl _) _
  have hsz : (w.alloc (.cells #[.int .i64 id, .int .i64 ld, .int .i64 ep, .int .i64 vr, .slice a1 isr.length c1, .slice a2 reps.length c2, .slice a3 add.length c3, .slice a4 rem.length c4, .int .i64 mn] 24)).heap.size = w.heap.size + 1 := by simp
  obtain ⟨so, scap, rfl, hscr⟩ := hs.shape
  have hlen := hs.len
  unfold maxLen at hlen
  have HSC := hid hscr
  have HP : Hid (∀ W, Below w.heap.size w W → PartM W (.agg #[.int .i64 id, .int .i64 ld, .int .i64 ep, .int .i64 vr, .slice a1 isr.length c1, .slice a2 reps.length c2, .slice a3 add.length c3, .slice a4 rem.length c4, .int .i64 mn]) ⟨id, ld, ep, vr, isr, reps, add, rem, mn⟩) := fun W hb => ⟨_, _, _, _, rfl, Q1.out.under hb, Q2.out.under hb, Q3.out.under hb, Q4.out.under hb, i0, i1, i2, i3, i4⟩
  have HIN : Hid (InP (fun b => b ≠ w.heap.size) (.agg #[.int .i64 id, .int .i64 ld, .int .i64 ep, .int .i64 vr, .slice a1 isr.length c1, .slice a2 reps.length c2, .slice a3 add.length c3, .slice a4 rem.length c4, .int .i64 mn]) ⟨id, ld, ep, vr, isr, reps, add, rem, mn⟩) := (HP.out w (Below.refl _ _)).old.mono fun b hb => by omega
  clear hscr hs i0 i1 i2 i3 i4 Q1 Q2 Q3 Q4
  go_enter Try.func4, Try.ntmps4
  go_wp2_with fail
  generalize w.alloc (.cells #[.int .i64 id, .int .i64 ld, .int .i64 ep, .int .i64 vr, .slice a1 isr.length c1, .slice a2 reps.length c2, .slice a3 add.length c3, .slice a4 rem.length c4, .int .i64 mn] 24) = W0 at *
  refine (shown_any _).mono ?_
  rintro e W1 ⟨rfl, hb⟩
  have HB2 := hid (HB.out.trans (hb.mono HB.out.size))
  have HX2 := hid (blk_under HX.out hb)
  have HP2 := hid (HP.out W1 HB2.out)
  clear hb hsz HP HX HB
  go_wp2_with fail
  go_loopg [6] ops.length (fun kx s6 wr => ∃ k : Nat, k ≤ ops.length ∧ ops.length - k ≤ kx ∧ s6 = .int .i64 (k : Int) ∧ ∃ p' cs', wr.heap[w.heap.size]? = some (.cells cs' 24) ∧ PartM wr (.agg cs') p' ∧ InP (fun b => b ≠ w.heap.size) (.agg cs') p' ∧ Below w.heap.size w wr)
  case atStart => exact ⟨0, Nat.zero_le _, by omega, rfl, ⟨id, ld, ep, vr, isr, reps, add, rem, mn⟩, _, HX2.out, HP2.out, HIN.out, HB2.out⟩
  case round =>
    clear HP2 HX2 HB2 HIN
    obtain ⟨k, hk, hkx, rfl, p, cs', hx, hpp, hin, hbr⟩ := hrel
    obtain ⟨id, ld, ep, vr, isr, reps, add, rem, mn⟩ := p
    obtain ⟨a1, c1, a2, c2, a3, c3, a4, c4, ecs, _, _, _, _, i0, i1, i2, i3, i4⟩ := hpp.open
    cases ecs
    simp only at hx hpp hin i0 i1 i2 i3 i4
    have HXr := hid hx
    have HPr := hid hpp
    have HIr := hid hin
    have HBr := hid hbr
    clear hx hpp hin hbr
    by_cases hlt : k < ops.length
    case neg =>
      have hlt' : ¬ (k : Int) < (ops.length : Int) := by omega
      go_wp2_with fail
      go_ret
      exact ⟨rfl, HBr.out⟩
    have hlt' : (k : Int) < (ops.length : Int) := by omega
    by_cases h100 : k < 100
    case neg =>
      have h100' : ¬ (k : Int) < 100 := by omega
      go_wp2_with fail
      go_ret
      exact ⟨rfl, HBr.out⟩
    have h100' : (k : Int) < 100 := by omega
    obtain ⟨b0, off, rfl, hc⟩ := HSC.out (by intro e; rw [e] at hlt; simp at hlt)
    obtain ⟨la, lc, ua, uc, o0, o1, o2, o3, o4, o5, l1, l2, j0, j1, j2, j3⟩ := (hc k hlt).under HBr.out
    generalize ops[k] = oo at *
    obtain ⟨ok, oa, ob, oc, ol, ou⟩ := oo
    simp only at o0 o1 o2 o3 o4 o5 l1 l2 j0 j1 j2 j3
    have HLL := hid (And.intro l1 l2)
    clear hc l1 l2
    have k0 := cell_blk HXr.out 0 _ rfl
    have k1 := cell_blk HXr.out 1 _ rfl
    have k2 := cell_blk HXr.out 2 _ rfl
    have k3 := cell_blk HXr.out 3 _ rfl
    have k4 := cell_blk HXr.out 4 _ rfl
    have k5 := cell_blk HXr.out 5 _ rfl
    have k6 := cell_blk HXr.out 6 _ rfl
    have k7 := cell_blk HXr.out 7 _ rfl
    have k8 := cell_blk HXr.out 8 _ rfl
    have hgr : w.heap.size < wr.heap.size := lt_blk HXr.out
    have hmx : I64 (if oa < ld then ld else oa) := by unfold I64 at *; split <;> omega
    by_cases hc2 : ob.tmod 4 = 0
    · have hc2b : (ob.tmod 4 != 0) = false := by simp [hc2]
      clear hc2
      go_upto_region 11 with fail
      have HBN : Hid (Below wr.heap.size wr (wr.alloc (.cells #[.int .i64 ok, .int .i64 oa, .int .i64 ob, .int .i64 oc, .slice la ol.length lc, .slice ua ou.length uc] 26))) := (Below.refl _ _).alloc (Nat.le_refl _) _
      have HO5 : Hid ((wr.alloc (.cells #[.int .i64 ok, .int .i64 oa, .int .i64 ob, .int .i64 oc, .slice la ol.length lc, .slice ua ou.length uc] 26)).heap[wr.heap.size]? = some (.cells #[.int .i64 ok, .int .i64 oa, .int .i64 ob, .int .i64 oc, .slice la ol.length lc, .slice ua ou.length uc] 26)) := heap_alloc_new _ _
      have HX5 := hid (blk_under HXr.out HBN.out)
      have HB5 := hid (HBr.out.trans (HBN.out.mono HBr.out.size))
      have HP5 := hid (HPr.out.under HBN.out)
      have HOM : Hid (OpM (wr.alloc (.cells #[.int .i64 ok, .int .i64 oa, .int .i64 ob, .int .i64 oc, .slice la ol.length lc, .slice ua ou.length uc] 26)) (.agg #[.int .i64 ok, .int .i64 oa, .int .i64 ob, .int .i64 oc, .slice la ol.length lc, .slice ua ou.length uc]) ⟨ok, oa, ob, oc, ol, ou⟩) := ⟨_, _, rfl, HLL.out.1.under HBN.out, HLL.out.2.under HBN.out, j0, j1, j2, j3⟩
      clear HBN k0 k1 k2 k3 k4 k5 k6 k7 k8
      generalize wr.alloc (.cells #[.int .i64 ok, .int .i64 oa, .int .i64 ob, .int .i64 oc, .slice la ol.length lc, .slice ua ou.length uc] 26) = W5 at *
      generalize wr.heap.size = g at *
      have k0 := cell_blk HX5.out 0 _ rfl
      have k1 := cell_blk HX5.out 1 _ rfl
      have k2 := cell_blk HX5.out 2 _ rfl
      have k3 := cell_blk HX5.out 3 _ rfl
      have k4 := cell_blk HX5.out 4 _ rfl
      have k5 := cell_blk HX5.out 5 _ rfl
      have k6 := cell_blk HX5.out 6 _ rfl
      have k7 := cell_blk HX5.out 7 _ rfl
      have k8 := cell_blk HX5.out 8 _ rfl
      have m0 := cell_blk HO5.out 0 _ rfl
      have m1 := cell_blk HO5.out 1 _ rfl
      have m2 := cell_blk HO5.out 2 _ rfl
      have m3 := cell_blk HO5.out 3 _ rfl
      have m4 := cell_blk HO5.out 4 _ rfl
      have m5 := cell_blk HO5.out 5 _ rfl
      have GD := hid (one_any HP5.out HOM.out)
      generalize hdd : didP ⟨id, ld, ep, vr, isr, reps, add, rem, mn⟩ ⟨ok, oa, ob, oc, ol, ou⟩ = rr at *
      obtain ⟨⟨rid, rld, rep, rvr, rl1, rl2, rl3, rl4, rmn⟩, re⟩ := rr
      clear hdd
      go_wp2_with fail
      refine GD.out.mono ?_
      rintro e W6 hr
      obtain ⟨x1, y1, x2, y2, x3, y3, x4, y4, t1, u1, t2, u2, t3, u3, t4, u4, rfl, HA, HAi, HB, hb⟩ := hr.open
      simp only at HA HAi HB
      have HLT : Hid (w.heap.size < W5.heap.size) := lt_blk HX5.out
      have HI3 : Hid (InP (fun b => b ≠ w.heap.size) (.agg #[.int .i64 rid, .int .i64 rld, .int .i64 rep, .int .i64 rvr, .slice x1 rl1.length y1, .slice x2 rl2.length y2, .slice x3 rl3.length y3, .slice x4 rl4.length y4, .int .i64 rmn]) ⟨rid, rld, rep, rvr, rl1, rl2, rl3, rl4, rmn⟩) := HAi.out.mono fun b hx => by have := HLT.out; omega
      have HX6 := hid (blk_under HX5.out hb)
      have HB6 := hid (HB5.out.trans (hb.mono HB5.out.size))
      have HP6 := hid (HP5.out.under hb)
      clear hr hb HAi GD k0 k1 k2 k3 k4 k5 k6 k7 k8 m0 m1 m2 m3 m4 m5 HX5 HO5 HB5 HP5 HOM
      go_upto_region 12 with fail
      have hA : Below W6.heap.size W6 ((W6.alloc (.cells #[.int .i64 rid, .int .i64 rld, .int .i64 rep, .int .i64 rvr, .slice x1 rl1.length y1, .slice x2 rl2.length y2, .slice x3 rl3.length y3, .slice x4 rl4.length y4, .int .i64 rmn] 24)).alloc (.cells #[.int .i64 rid, .int .i64 rld, .int .i64 rep, .int .i64 rvr, .slice t1 rl1.length u1, .slice t2 rl2.length u2, .slice t3 rl3.length u3, .slice t4 rl4.length u4, .int .i64 rmn] 24)) := ((Below.refl _ _).alloc (Nat.le_refl _) _).alloc (by simp) _
      have HX7 := hid (blk_under HX6.out hA)
      have HB7 := hid (HB6.out.trans (hA.mono HB6.out.size))
      have HP7 := hid (HP6.out.under hA)
      have HA3 := hid (HA.out.under hA)
      have HB3 := hid (HB.out.under hA)
      have HQ1 : Hid (((W6.alloc (.cells #[.int .i64 rid, .int .i64 rld, .int .i64 rep, .int .i64 rvr, .slice x1 rl1.length y1, .slice x2 rl2.length y2, .slice x3 rl3.length y3, .slice x4 rl4.length y4, .int .i64 rmn] 24)).alloc (.cells #[.int .i64 rid, .int .i64 rld, .int .i64 rep, .int .i64 rvr, .slice t1 rl1.length u1, .slice t2 rl2.length u2, .slice t3 rl3.length u3, .slice t4 rl4.length u4, .int .i64 rmn] 24)).heap[W6.heap.size]? = some (.cells #[.int .i64 rid, .int .i64 rld, .int .i64 rep, .int .i64 rvr, .slice x1 rl1.length y1, .slice x2 rl2.length y2, .slice x3 rl3.length y3, .slice x4 rl4.length y4, .int .i64 rmn] 24)) := by
        show _ = _
        rw [Below.heap_alloc _ _ _ (by simp)]; exact heap_alloc_new _ _
      have HQ2 : Hid (((W6.alloc (.cells #[.int .i64 rid, .int .i64 rld, .int .i64 rep, .int .i64 rvr, .slice x1 rl1.length y1, .slice x2 rl2.length y2, .slice x3 rl3.length y3, .slice x4 rl4.length y4, .int .i64 rmn] 24)).alloc (.cells #[.int .i64 rid, .int .i64 rld, .int .i64 rep, .int .i64 rvr, .slice t1 rl1.length u1, .slice t2 rl2.length u2, .slice t3 rl3.length u3, .slice t4 rl4.length u4, .int .i64 rmn] 24)).heap[W6.heap.size + 1]? = some (.cells #[.int .i64 rid, .int .i64 rld, .int .i64 rep, .int .i64 rvr, .slice t1 rl1.length u1, .slice t2 rl2.length u2, .slice t3 rl3.length u3, .slice t4 rl4.length u4, .int .i64 rmn] 24)) := by
        show _ = _
        have := heap_alloc_new (W6.alloc (.cells #[.int .i64 rid, .int .i64 rld, .int .i64 rep, .int .i64 rvr, .slice x1 rl1.length y1, .slice x2 rl2.length y2, .slice x3 rl3.length y3, .slice x4 rl4.length y4, .int .i64 rmn] 24)) (.cells #[.int .i64 rid, .int .i64 rld, .int .i64 rep, .int .i64 rvr, .slice t1 rl1.length u1, .slice t2 rl2.length u2, .slice t3 rl3.length u3, .slice t4 rl4.length u4, .int .i64 rmn] 24)
        rw [show (W6.alloc (.cells #[.int .i64 rid, .int .i64 rld, .int .i64 rep, .int .i64 rvr, .slice x1 rl1.length y1, .slice x2 rl2.length y2, .slice x3 rl3.length y3, .slice x4 rl4.length y4, .int .i64 rmn] 24)).heap.size = W6.heap.size + 1 by simp] at this
        exact this
      have HNE : Hid (w.heap.size < W6.heap.size) := lt_blk HX6.out
      clear hA HA HB HX6 HB6 HP6
      generalize (W6.alloc (.cells #[.int .i64 rid, .int .i64 rld, .int .i64 rep, .int .i64 rvr, .slice x1 rl1.length y1, .slice x2 rl2.length y2, .slice x3 rl3.length y3, .slice x4 rl4.length y4, .int .i64 rmn] 24)).alloc (.cells #[.int .i64 rid, .int .i64 rld, .int .i64 rep, .int .i64 rvr, .slice t1 rl1.length u1, .slice t2 rl2.length u2, .slice t3 rl3.length u3, .slice t4 rl4.length u4, .int .i64 rmn] 24) = W7 at *
      generalize W6.heap.size = q at *
      have k0 := cell_blk HQ1.out 0 _ rfl
      have k1 := cell_blk HQ1.out 1 _ rfl
      have k2 := cell_blk HQ1.out 2 _ rfl
      have k3 := cell_blk HQ1.out 3 _ rfl
      have k4 := cell_blk HQ1.out 4 _ rfl
      have k5 := cell_blk HQ1.out 5 _ rfl
      have k6 := cell_blk HQ1.out 6 _ rfl
      have k7 := cell_blk HQ1.out 7 _ rfl
      have k8 := cell_blk HQ1.out 8 _ rfl
      have m0 := cell_blk HQ2.out 0 _ rfl
      have m1 := cell_blk HQ2.out 1 _ rfl
      have m2 := cell_blk HQ2.out 2 _ rfl
      have m3 := cell_blk HQ2.out 3 _ rfl
      have m4 := cell_blk HQ2.out 4 _ rfl
      have m5 := cell_blk HQ2.out 5 _ rfl
      have m6 := cell_blk HQ2.out 6 _ rfl
      have m7 := cell_blk HQ2.out 7 _ rfl
      have m8 := cell_blk HQ2.out 8 _ rfl
      have G11 := hid (rsameP_any HA3.out HB3.out)
      rw [sameP_refl] at G11
      go_wp2_with fail
      refine G11.out.mono ?_
      rintro e W8 ⟨rfl, hb⟩
      have HX8 := hid (blk_under HX7.out hb)
      have HB8 := hid (HB7.out.trans (hb.mono HB7.out.size))
      have HP8 := hid (HP7.out.under hb)
      have HQ8 := hid (blk_under HQ1.out hb)
      have HA8 := hid (HA3.out.under hb)
      clear hb HX7 HB7 HP7 HA3 HB3 HQ1 HQ2 G11 k0 k1 k2 k3 k4 k5 k6 k7 k8 m0 m1 m2 m3 m4 m5 m6 m7 m8
      have cE : (re != re) = false := by simp
      by_cases he : re = 0
      · have he1 : (re == 0) = true := by simp [he]
        clear he
        have k0 := cell_blk HQ8.out 0 _ rfl
        have k1 := cell_blk HQ8.out 1 _ rfl
        have k2 := cell_blk HQ8.out 2 _ rfl
        have k3 := cell_blk HQ8.out 3 _ rfl
        have k4 := cell_blk HQ8.out 4 _ rfl
        have k5 := cell_blk HQ8.out 5 _ rfl
        have k6 := cell_blk HQ8.out 6 _ rfl
        have k7 := cell_blk HQ8.out 7 _ rfl
        have k8 := cell_blk HQ8.out 8 _ rfl
        have z0 := cell_blk HX8.out 0 _ rfl
        have z1 := cell_blk HX8.out 1 _ rfl
        have z2 := cell_blk HX8.out 2 _ rfl
        have z3 := cell_blk HX8.out 3 _ rfl
        have z4 := cell_blk HX8.out 4 _ rfl
        have z5 := cell_blk HX8.out 5 _ rfl
        have z6 := cell_blk HX8.out 6 _ rfl
        have z7 := cell_blk HX8.out 7 _ rfl
        have z8 := cell_blk HX8.out 8 _ rfl
        have fk := frz_blk HX8.out
        go_wp2_with fail
        obtain ⟨hoff, hsz9⟩ := nine_off W8 w.heap.size (.int .i64 rid) (.int .i64 rld) (.int .i64 rep) (.int .i64 rvr) (.slice x1 rl1.length y1) (.slice x2 rl2.length y2) (.slice x3 rl3.length y3) (.slice x4 rl4.length y4) (.int .i64 rmn)
        have HX9 := hid (nine_q HX8.out rfl (.int .i64 rid) (.int .i64 rld) (.int .i64 rep) (.int .i64 rvr) (.slice x1 rl1.length y1) (.slice x2 rl2.length y2) (.slice x3 rl3.length y3) (.slice x4 rl4.length y4) (.int .i64 rmn))
        have HB9 := hid (nine_below HB8.out (Nat.le_refl _) (.int .i64 rid) (.int .i64 rld) (.int .i64 rep) (.int .i64 rvr) (.slice x1 rl1.length y1) (.slice x2 rl2.length y2) (.slice x3 rl3.length y3) (.slice x4 rl4.length y4) (.int .i64 rmn))
        have HP9 := hid (HA8.out.off HI3.out hoff hsz9)
        clear hoff hsz9 z0 z1 z2 z3 z4 z5 z6 z7 z8 k0 k1 k2 k3 k4 k5 k6 k7 k8 fk
        generalize (((((((((W8.setCell ⟨w.heap.size, 0, none⟩ (.int .i64 rid)).setCell ⟨w.heap.size, 1, none⟩ (.int .i64 rld)).setCell ⟨w.heap.size, 2, none⟩ (.int .i64 rep)).setCell ⟨w.heap.size, 3, none⟩ (.int .i64 rvr)).setCell ⟨w.heap.size, 4, none⟩ (.slice x1 rl1.length y1)).setCell ⟨w.heap.size, 5, none⟩ (.slice x2 rl2.length y2)).setCell ⟨w.heap.size, 6, none⟩ (.slice x3 rl3.length y3)).setCell ⟨w.heap.size, 7, none⟩ (.slice x4 rl4.length y4)).setCell ⟨w.heap.size, 8, none⟩ (.int .i64 rmn)) = W9 at *
        go_roundg (ops.length - (k + 1))
        case measure => omega
        case rel => exact ⟨k + 1, by omega, Nat.le_refl _, by go_num, ⟨rid, rld, rep, rvr, rl1, rl2, rl3, rl4, rmn⟩, _, HX9.out, HP9.out, HI3.out, HB9.out⟩
      · have he1 : (re == 0) = false := by simp [he]
        clear he
        go_wp2_with fail
        go_roundg (ops.length - (k + 1))
        case measure => omega
        case rel => exact ⟨k + 1, by omega, Nat.le_refl _, by go_num, ⟨id, ld, ep, vr, isr, reps, add, rem, mn⟩, _, HX8.out, HP8.out, HIr.out, HB8.out⟩
    · have hc2b : (ob.tmod 4 != 0) = true := by simp [hc2]
      clear hc2
      by_cases hc3 : vr.tmod 7 = 3
      · have hc3b : (vr.tmod 7 != 3) = false := by simp [hc3]
        clear hc3
        go_upto_region 11 with fail
        have HBN : Hid (Below wr.heap.size wr (wr.alloc (.cells #[.int .i64 ok, .int .i64 oa, .int .i64 ep, .int .i64 vr, .slice la ol.length lc, .slice ua ou.length uc] 26))) := (Below.refl _ _).alloc (Nat.le_refl _) _
        have HO5 : Hid ((wr.alloc (.cells #[.int .i64 ok, .int .i64 oa, .int .i64 ep, .int .i64 vr, .slice la ol.length lc, .slice ua ou.length uc] 26)).heap[wr.heap.size]? = some (.cells #[.int .i64 ok, .int .i64 oa, .int .i64 ep, .int .i64 vr, .slice la ol.length lc, .slice ua ou.length uc] 26)) := heap_alloc_new _ _
        have HX5 := hid (blk_under HXr.out HBN.out)
        have HB5 := hid (HBr.out.trans (HBN.out.mono HBr.out.size))
        have HP5 := hid (HPr.out.under HBN.out)
        have HOM : Hid (OpM (wr.alloc (.cells #[.int .i64 ok, .int .i64 oa, .int .i64 ep, .int .i64 vr, .slice la ol.length lc, .slice ua ou.length uc] 26)) (.agg #[.int .i64 ok, .int .i64 oa, .int .i64 ep, .int .i64 vr, .slice la ol.length lc, .slice ua ou.length uc]) ⟨ok, oa, ep, vr, ol, ou⟩) := ⟨_, _, rfl, HLL.out.1.under HBN.out, HLL.out.2.under HBN.out, j0, j1, i2, i3⟩
        clear HBN k0 k1 k2 k3 k4 k5 k6 k7 k8
        generalize wr.alloc (.cells #[.int .i64 ok, .int .i64 oa, .int .i64 ep, .int .i64 vr, .slice la ol.length lc, .slice ua ou.length uc] 26) = W5 at *
        generalize wr.heap.size = g at *
        have k0 := cell_blk HX5.out 0 _ rfl
        have k1 := cell_blk HX5.out 1 _ rfl
        have k2 := cell_blk HX5.out 2 _ rfl
        have k3 := cell_blk HX5.out 3 _ rfl
        have k4 := cell_blk HX5.out 4 _ rfl
        have k5 := cell_blk HX5.out 5 _ rfl
        have k6 := cell_blk HX5.out 6 _ rfl
        have k7 := cell_blk HX5.out 7 _ rfl
        have k8 := cell_blk HX5.out 8 _ rfl
        have m0 := cell_blk HO5.out 0 _ rfl
        have m1 := cell_blk HO5.out 1 _ rfl
        have m2 := cell_blk HO5.out 2 _ rfl
        have m3 := cell_blk HO5.out 3 _ rfl
        have m4 := cell_blk HO5.out 4 _ rfl
        have m5 := cell_blk HO5.out 5 _ rfl
        have GD := hid (one_any HP5.out HOM.out)
        generalize hdd : didP ⟨id, ld, ep, vr, isr, reps, add, rem, mn⟩ ⟨ok, oa, ep, vr, ol, ou⟩ = rr at *
        obtain ⟨⟨rid, rld, rep, rvr, rl1, rl2, rl3, rl4, rmn⟩, re⟩ := rr
        clear hdd
        go_wp2_with fail
        refine GD.out.mono ?_
        rintro e W6 hr
        obtain ⟨x1, y1, x2, y2, x3, y3, x4, y4, t1, u1, t2, u2, t3, u3, t4, u4, rfl, HA, HAi, HB, hb⟩ := hr.open
        simp only at HA HAi HB
        have HLT : Hid (w.heap.size < W5.heap.size) := lt_blk HX5.out
        have HI3 : Hid (InP (fun b => b ≠ w.heap.size) (.agg #[.int .i64 rid, .int .i64 rld, .int .i64 rep, .int .i64 rvr, .slice x1 rl1.length y1, .slice x2 rl2.length y2, .slice x3 rl3.length y3, .slice x4 rl4.length y4, .int .i64 rmn]) ⟨rid, rld, rep, rvr, rl1, rl2, rl3, rl4, rmn⟩) := HAi.out.mono fun b hx => by have := HLT.out; omega
        have HX6 := hid (blk_under HX5.out hb)
        have HB6 := hid (HB5.out.trans (hb.mono HB5.out.size))
        have HP6 := hid (HP5.out.under hb)
        clear hr hb HAi GD k0 k1 k2 k3 k4 k5 k6 k7 k8 m0 m1 m2 m3 m4 m5 HX5 HO5 HB5 HP5 HOM
        go_upto_region 12 with fail
        have hA : Below W6.heap.size W6 ((W6.alloc (.cells #[.int .i64 rid, .int .i64 rld, .int .i64 rep, .int .i64 rvr, .slice x1 rl1.length y1, .slice x2 rl2.length y2, .slice x3 rl3.length y3, .slice x4 rl4.length y4, .int .i64 rmn] 24)).alloc (.cells #[.int .i64 rid, .int .i64 rld, .int .i64 rep, .int .i64 rvr, .slice t1 rl1.length u1, .slice t2 rl2.length u2, .slice t3 rl3.length u3, .slice t4 rl4.length u4, .int .i64 rmn] 24)) := ((Below.refl _ _).alloc (Nat.le_refl _) _).alloc (by simp) _
        have HX7 := hid (blk_under HX6.out hA)
        have HB7 := hid (HB6.out.trans (hA.mono HB6.out.size))
        have HP7 := hid (HP6.out.under hA)
        have HA3 := hid (HA.out.under hA)
        have HB3 := hid (HB.out.under hA)
        have HQ1 : Hid (((W6.alloc (.cells #[.int .i64 rid, .int .i64 rld, .int .i64 rep, .int .i64 rvr, .slice x1 rl1.length y1, .slice x2 rl2.length y2, .slice x3 rl3.length y3, .slice x4 rl4.length y4, .int .i64 rmn] 24)).alloc (.cells #[.int .i64 rid, .int .i64 rld, .int .i64 rep, .int .i64 rvr, .slice t1 rl1.length u1, .slice t2 rl2.length u2, .slice t3 rl3.length u3, .slice t4 rl4.length u4, .int .i64 rmn] 24)).heap[W6.heap.size]? = some (.cells #[.int .i64 rid, .int .i64 rld, .int .i64 rep, .int .i64 rvr, .slice x1 rl1.length y1, .slice x2 rl2.length y2, .slice x3 rl3.length y3, .slice x4 rl4.length y4, .int .i64 rmn] 24)) := by
          show _ = _
          rw [Below.heap_alloc _ _ _ (by simp)]; exact heap_alloc_new _ _
        have HQ2 : Hid (((W6.alloc (.cells #[.int .i64 rid, .int .i64 rld, .int .i64 rep, .int .i64 rvr, .slice x1 rl1.length y1, .slice x2 rl2.length y2, .slice x3 rl3.length y3, .slice x4 rl4.length y4, .int .i64 rmn] 24)).alloc (.cells #[.int .i64 rid, .int .i64 rld, .int .i64 rep, .int .i64 rvr, .slice t1 rl1.length u1, .slice t2 rl2.length u2, .slice t3 rl3.length u3, .slice t4 rl4.length u4, .int .i64 rmn] 24)).heap[W6.heap.size + 1]? = some (.cells #[.int .i64 rid, .int .i64 rld, .int .i64 rep, .int .i64 rvr, .slice t1 rl1.length u1, .slice t2 rl2.length u2, .slice t3 rl3.length u3, .slice t4 rl4.length u4, .int .i64 rmn] 24)) := by
          show _ = _
          have := heap_alloc_new (W6.alloc (.cells #[.int .i64 rid, .int .i64 rld, .int .i64 rep, .int .i64 rvr, .slice x1 rl1.length y1, .slice x2 rl2.length y2, .slice x3 rl3.length y3, .slice x4 rl4.length y4, .int .i64 rmn] 24)) (.cells #[.int .i64 rid, .int .i64 rld, .int .i64 rep, .int .i64 rvr, .slice t1 rl1.length u1, .slice t2 rl2.length u2, .slice t3 rl3.length u3, .slice t4 rl4.length u4, .int .i64 rmn] 24)
          rw [show (W6.alloc (.cells #[.int .i64 rid, .int .i64 rld, .int .i64 rep, .int .i64 rvr, .slice x1 rl1.length y1, .slice x2 rl2.length y2, .slice x3 rl3.length y3, .slice x4 rl4.length y4, .int .i64 rmn] 24)).heap.size = W6.heap.size + 1 by simp] at this
          exact this
        have HNE : Hid (w.heap.size < W6.heap.size) := lt_blk HX6.out
        clear hA HA HB HX6 HB6 HP6
        generalize (W6.alloc (.cells #[.int .i64 rid, .int .i64 rld, .int .i64 rep, .int .i64 rvr, .slice x1 rl1.length y1, .slice x2 rl2.length y2, .slice x3 rl3.length y3, .slice x4 rl4.length y4, .int .i64 rmn] 24)).alloc (.cells #[.int .i64 rid, .int .i64 rld, .int .i64 rep, .int .i64 rvr, .slice t1 rl1.length u1, .slice t2 rl2.length u2, .slice t3 rl3.length u3, .slice t4 rl4.length u4, .int .i64 rmn] 24) = W7 at *
        generalize W6.heap.size = q at *
        have k0 := cell_blk HQ1.out 0 _ rfl
        have k1 := cell_blk HQ1.out 1 _ rfl
        have k2 := cell_blk HQ1.out 2 _ rfl
        have k3 := cell_blk HQ1.out 3 _ rfl
        have k4 := cell_blk HQ1.out 4 _ rfl
        have k5 := cell_blk HQ1.out 5 _ rfl
        have k6 := cell_blk HQ1.out 6 _ rfl
        have k7 := cell_blk HQ1.out 7 _ rfl
        have k8 := cell_blk HQ1.out 8 _ rfl
        have m0 := cell_blk HQ2.out 0 _ rfl
        have m1 := cell_blk HQ2.out 1 _ rfl
        have m2 := cell_blk HQ2.out 2 _ rfl
        have m3 := cell_blk HQ2.out 3 _ rfl
        have m4 := cell_blk HQ2.out 4 _ rfl
        have m5 := cell_blk HQ2.out 5 _ rfl
        have m6 := cell_blk HQ2.out 6 _ rfl
        have m7 := cell_blk HQ2.out 7 _ rfl
        have m8 := cell_blk HQ2.out 8 _ rfl
        have G11 := hid (rsameP_any HA3.out HB3.out)
        rw [sameP_refl] at G11
        go_wp2_with fail
        refine G11.out.mono ?_
        rintro e W8 ⟨rfl, hb⟩
        have HX8 := hid (blk_under HX7.out hb)
        have HB8 := hid (HB7.out.trans (hb.mono HB7.out.size))
        have HP8 := hid (HP7.out.under hb)
        have HQ8 := hid (blk_under HQ1.out hb)
        have HA8 := hid (HA3.out.under hb)
        clear hb HX7 HB7 HP7 HA3 HB3 HQ1 HQ2 G11 k0 k1 k2 k3 k4 k5 k6 k7 k8 m0 m1 m2 m3 m4 m5 m6 m7 m8
        have cE : (re != re) = false := by simp
        by_cases he : re = 0
        · have he1 : (re == 0) = true := by simp [he]
          clear he
          have k0 := cell_blk HQ8.out 0 _ rfl
          have k1 := cell_blk HQ8.out 1 _ rfl
          have k2 := cell_blk HQ8.out 2 _ rfl
          have k3 := cell_blk HQ8.out 3 _ rfl
          have k4 := cell_blk HQ8.out 4 _ rfl
          have k5 := cell_blk HQ8.out 5 _ rfl
          have k6 := cell_blk HQ8.out 6 _ rfl
          have k7 := cell_blk HQ8.out 7 _ rfl
          have k8 := cell_blk HQ8.out 8 _ rfl
          have z0 := cell_blk HX8.out 0 _ rfl
          have z1 := cell_blk HX8.out 1 _ rfl
          have z2 := cell_blk HX8.out 2 _ rfl
          have z3 := cell_blk HX8.out 3 _ rfl
          have z4 := cell_blk HX8.out 4 _ rfl
          have z5 := cell_blk HX8.out 5 _ rfl
          have z6 := cell_blk HX8.out 6 _ rfl
          have z7 := cell_blk HX8.out 7 _ rfl
          have z8 := cell_blk HX8.out 8 _ rfl
          have fk := frz_blk HX8.out
          go_wp2_with fail
          obtain ⟨hoff, hsz9⟩ := nine_off W8 w.heap.size (.int .i64 rid) (.int .i64 rld) (.int .i64 rep) (.int .i64 rvr) (.slice x1 rl1.length y1) (.slice x2 rl2.length y2) (.slice x3 rl3.length y3) (.slice x4 rl4.length y4) (.int .i64 rmn)
          have HX9 := hid (nine_q HX8.out rfl (.int .i64 rid) (.int .i64 rld) (.int .i64 rep) (.int .i64 rvr) (.slice x1 rl1.length y1) (.slice x2 rl2.length y2) (.slice x3 rl3.length y3) (.slice x4 rl4.length y4) (.int .i64 rmn))
          have HB9 := hid (nine_below HB8.out (Nat.le_refl _) (.int .i64 rid) (.int .i64 rld) (.int .i64 rep) (.int .i64 rvr) (.slice x1 rl1.length y1) (.slice x2 rl2.length y2) (.slice x3 rl3.length y3) (.slice x4 rl4.length y4) (.int .i64 rmn))
          have HP9 := hid (HA8.out.off HI3.out hoff hsz9)
          clear hoff hsz9 z0 z1 z2 z3 z4 z5 z6 z7 z8 k0 k1 k2 k3 k4 k5 k6 k7 k8 fk
          generalize (((((((((W8.setCell ⟨w.heap.size, 0, none⟩ (.int .i64 rid)).setCell ⟨w.heap.size, 1, none⟩ (.int .i64 rld)).setCell ⟨w.heap.size, 2, none⟩ (.int .i64 rep)).setCell ⟨w.heap.size, 3, none⟩ (.int .i64 rvr)).setCell ⟨w.heap.size, 4, none⟩ (.slice x1 rl1.length y1)).setCell ⟨w.heap.size, 5, none⟩ (.slice x2 rl2.length y2)).setCell ⟨w.heap.size, 6, none⟩ (.slice x3 rl3.length y3)).setCell ⟨w.heap.size, 7, none⟩ (.slice x4 rl4.length y4)).setCell ⟨w.heap.size, 8, none⟩ (.int .i64 rmn)) = W9 at *
          go_roundg (ops.length - (k + 1))
          case measure => omega
          case rel => exact ⟨k + 1, by omega, Nat.le_refl _, by go_num, ⟨rid, rld, rep, rvr, rl1, rl2, rl3, rl4, rmn⟩, _, HX9.out, HP9.out, HI3.out, HB9.out⟩
        · have he1 : (re == 0) = false := by simp [he]
          clear he
          go_wp2_with fail
          go_roundg (ops.length - (k + 1))
          case measure => omega
          case rel => exact ⟨k + 1, by omega, Nat.le_refl _, by go_num, ⟨id, ld, ep, vr, isr, reps, add, rem, mn⟩, _, HX8.out, HP8.out, HIr.out, HB8.out⟩
      · have hc3b : (vr.tmod 7 != 3) = true := by simp [hc3]
        clear hc3
        go_upto_region 11 with fail
        generalize (if oa < ld then ld else oa) = MX at *
        have HBN : Hid (Below wr.heap.size wr (wr.alloc (.cells #[.int .i64 ok, .int .i64 MX, .int .i64 ep, .int .i64 vr, .slice la ol.length lc, .slice ua ou.length uc] 26))) := (Below.refl _ _).alloc (Nat.le_refl _) _
        have HO5 : Hid ((wr.alloc (.cells #[.int .i64 ok, .int .i64 MX, .int .i64 ep, .int .i64 vr, .slice la ol.length lc, .slice ua ou.length uc] 26)).heap[wr.heap.size]? = some (.cells #[.int .i64 ok, .int .i64 MX, .int .i64 ep, .int .i64 vr, .slice la ol.length lc, .slice ua ou.length uc] 26)) := heap_alloc_new _ _
        have HX5 := hid (blk_under HXr.out HBN.out)
        have HB5 := hid (HBr.out.trans (HBN.out.mono HBr.out.size))
        have HP5 := hid (HPr.out.under HBN.out)
        have HOM : Hid (OpM (wr.alloc (.cells #[.int .i64 ok, .int .i64 MX, .int .i64 ep, .int .i64 vr, .slice la ol.length lc, .slice ua ou.length uc] 26)) (.agg #[.int .i64 ok, .int .i64 MX, .int .i64 ep, .int .i64 vr, .slice la ol.length lc, .slice ua ou.length uc]) ⟨ok, MX, ep, vr, ol, ou⟩) := ⟨_, _, rfl, HLL.out.1.under HBN.out, HLL.out.2.under HBN.out, j0, hmx, i2, i3⟩
        clear HBN k0 k1 k2 k3 k4 k5 k6 k7 k8
        generalize wr.alloc (.cells #[.int .i64 ok, .int .i64 MX, .int .i64 ep, .int .i64 vr, .slice la ol.length lc, .slice ua ou.length uc] 26) = W5 at *
        generalize wr.heap.size = g at *
        have k0 := cell_blk HX5.out 0 _ rfl
        have k1 := cell_blk HX5.out 1 _ rfl
        have k2 := cell_blk HX5.out 2 _ rfl
        have k3 := cell_blk HX5.out 3 _ rfl
        have k4 := cell_blk HX5.out 4 _ rfl
        have k5 := cell_blk HX5.out 5 _ rfl
        have k6 := cell_blk HX5.out 6 _ rfl
        have k7 := cell_blk HX5.out 7 _ rfl
        have k8 := cell_blk HX5.out 8 _ rfl
        have m0 := cell_blk HO5.out 0 _ rfl
        have m1 := cell_blk HO5.out 1 _ rfl
        have m2 := cell_blk HO5.out 2 _ rfl
        have m3 := cell_blk HO5.out 3 _ rfl
        have m4 := cell_blk HO5.out 4 _ rfl
        have m5 := cell_blk HO5.out 5 _ rfl
        have GD := hid (one_any HP5.out HOM.out)
        generalize hdd : didP ⟨id, ld, ep, vr, isr, reps, add, rem, mn⟩ ⟨ok, MX, ep, vr, ol, ou⟩ = rr at *
        obtain ⟨⟨rid, rld, rep, rvr, rl1, rl2, rl3, rl4, rmn⟩, re⟩ := rr
        clear hdd
        go_wp2_with fail
        refine GD.out.mono ?_
        rintro e W6 hr
        obtain ⟨x1, y1, x2, y2, x3, y3, x4, y4, t1, u1, t2, u2, t3, u3, t4, u4, rfl, HA, HAi, HB, hb⟩ := hr.open
        simp only at HA HAi HB
        have HLT : Hid (w.heap.size < W5.heap.size) := lt_blk HX5.out
        have HI3 : Hid (InP (fun b => b ≠ w.heap.size) (.agg #[.int .i64 rid, .int .i64 rld, .int .i64 rep, .int .i64 rvr, .slice x1 rl1.length y1, .slice x2 rl2.length y2, .slice x3 rl3.length y3, .slice x4 rl4.length y4, .int .i64 rmn]) ⟨rid, rld, rep, rvr, rl1, rl2, rl3, rl4, rmn⟩) := HAi.out.mono fun b hx => by have := HLT.out; omega
        have HX6 := hid (blk_under HX5.out hb)
        have HB6 := hid (HB5.out.trans (hb.mono HB5.out.size))
        have HP6 := hid (HP5.out.under hb)
        clear hr hb HAi GD k0 k1 k2 k3 k4 k5 k6 k7 k8 m0 m1 m2 m3 m4 m5 HX5 HO5 HB5 HP5 HOM
        go_upto_region 12 with fail
        have hA : Below W6.heap.size W6 ((W6.alloc (.cells #[.int .i64 rid, .int .i64 rld, .int .i64 rep, .int .i64 rvr, .slice x1 rl1.length y1, .slice x2 rl2.length y2, .slice x3 rl3.length y3, .slice x4 rl4.length y4, .int .i64 rmn] 24)).alloc (.cells #[.int .i64 rid, .int .i64 rld, .int .i64 rep, .int .i64 rvr, .slice t1 rl1.length u1, .slice t2 rl2.length u2, .slice t3 rl3.length u3, .slice t4 rl4.length u4, .int .i64 rmn] 24)) := ((Below.refl _ _).alloc (Nat.le_refl _) _).alloc (by simp) _
        have HX7 := hid (blk_under HX6.out hA)
        have HB7 := hid (HB6.out.trans (hA.mono HB6.out.size))
        have HP7 := hid (HP6.out.under hA)
        have HA3 := hid (HA.out.under hA)
        have HB3 := hid (HB.out.under hA)
        have HQ1 : Hid (((W6.alloc (.cells #[.int .i64 rid, .int .i64 rld, .int .i64 rep, .int .i64 rvr, .slice x1 rl1.length y1, .slice x2 rl2.length y2, .slice x3 rl3.length y3, .slice x4 rl4.length y4, .int .i64 rmn] 24)).alloc (.cells #[.int .i64 rid, .int .i64 rld, .int .i64 rep, .int .i64 rvr, .slice t1 rl1.length u1, .slice t2 rl2.length u2, .slice t3 rl3.length u3, .slice t4 rl4.length u4, .int .i64 rmn] 24)).heap[W6.heap.size]? = some (.cells #[.int .i64 rid, .int .i64 rld, .int .i64 rep, .int .i64 rvr, .slice x1 rl1.length y1, .slice x2 rl2.length y2, .slice x3 rl3.length y3, .slice x4 rl4.length y4, .int .i64 rmn] 24)) := by
          show _ = _
          rw [Below.heap_alloc _ _ _ (by simp)]; exact heap_alloc_new _ _
        have HQ2 : Hid (((W6.alloc (.cells #[.int .i64 rid, .int .i64 rld, .int .i64 rep, .int .i64 rvr, .slice x1 rl1.length y1, .slice x2 rl2.length y2, .slice x3 rl3.length y3, .slice x4 rl4.length y4, .int .i64 rmn] 24)).alloc (.cells #[.int .i64 rid, .int .i64 rld, .int .i64 rep, .int .i64 rvr, .slice t1 rl1.length u1, .slice t2 rl2.length u2, .slice t3 rl3.length u3, .slice t4 rl4.length u4, .int .i64 rmn] 24)).heap[W6.heap.size + 1]? = some (.cells #[.int .i64 rid, .int .i64 rld, .int .i64 rep, .int .i64 rvr, .slice t1 rl1.length u1, .slice t2 rl2.length u2, .slice t3 rl3.length u3, .slice t4 rl4.length u4, .int .i64 rmn] 24)) := by
          show _ = _
          have := heap_alloc_new (W6.alloc (.cells #[.int .i64 rid, .int .i64 rld, .int .i64 rep, .int .i64 rvr, .slice x1 rl1.length y1, .slice x2 rl2.length y2, .slice x3 rl3.length y3, .slice x4 rl4.length y4, .int .i64 rmn] 24)) (.cells #[.int .i64 rid, .int .i64 rld, .int .i64 rep, .int .i64 rvr, .slice t1 rl1.length u1, .slice t2 rl2.length u2, .slice t3 rl3.length u3, .slice t4 rl4.length u4, .int .i64 rmn] 24)
          rw [show (W6.alloc (.cells #[.int .i64 rid, .int .i64 rld, .int .i64 rep, .int .i64 rvr, .slice x1 rl1.length y1, .slice x2 rl2.length y2, .slice x3 rl3.length y3, .slice x4 rl4.length y4, .int .i64 rmn] 24)).heap.size = W6.heap.size + 1 by simp] at this
          exact this
        have HNE : Hid (w.heap.size < W6.heap.size) := lt_blk HX6.out
        clear hA HA HB HX6 HB6 HP6
        generalize (W6.alloc (.cells #[.int .i64 rid, .int .i64 rld, .int .i64 rep, .int .i64 rvr, .slice x1 rl1.length y1, .slice x2 rl2.length y2, .slice x3 rl3.length y3, .slice x4 rl4.length y4, .int .i64 rmn] 24)).alloc (.cells #[.int .i64 rid, .int .i64 rld, .int .i64 rep, .int .i64 rvr, .slice t1 rl1.length u1, .slice t2 rl2.length u2, .slice t3 rl3.length u3, .slice t4 rl4.length u4, .int .i64 rmn] 24) = W7 at *
        generalize W6.heap.size = q at *
        have k0 := cell_blk HQ1.out 0 _ rfl
        have k1 := cell_blk HQ1.out 1 _ rfl
        have k2 := cell_blk HQ1.out 2 _ rfl
        have k3 := cell_blk HQ1.out 3 _ rfl
        have k4 := cell_blk HQ1.out 4 _ rfl
        have k5 := cell_blk HQ1.out 5 _ rfl
        have k6 := cell_blk HQ1.out 6 _ rfl
        have k7 := cell_blk HQ1.out 7 _ rfl
        have k8 := cell_blk HQ1.out 8 _ rfl
        have m0 := cell_blk HQ2.out 0 _ rfl
        have m1 := cell_blk HQ2.out 1 _ rfl
        have m2 := cell_blk HQ2.out 2 _ rfl
        have m3 := cell_blk HQ2.out 3 _ rfl
        have m4 := cell_blk HQ2.out 4 _ rfl
        have m5 := cell_blk HQ2.out 5 _ rfl
        have m6 := cell_blk HQ2.out 6 _ rfl
        have m7 := cell_blk HQ2.out 7 _ rfl
        have m8 := cell_blk HQ2.out 8 _ rfl
        have G11 := hid (rsameP_any HA3.out HB3.out)
        rw [sameP_refl] at G11
        go_wp2_with fail
        refine G11.out.mono ?_
        rintro e W8 ⟨rfl, hb⟩
        have HX8 := hid (blk_under HX7.out hb)
        have HB8 := hid (HB7.out.trans (hb.mono HB7.out.size))
        have HP8 := hid (HP7.out.under hb)
        have HQ8 := hid (blk_under HQ1.out hb)
        have HA8 := hid (HA3.out.under hb)
        clear hb HX7 HB7 HP7 HA3 HB3 HQ1 HQ2 G11 k0 k1 k2 k3 k4 k5 k6 k7 k8 m0 m1 m2 m3 m4 m5 m6 m7 m8
        have cE : (re != re) = false := by simp
        by_cases he : re = 0
        · have he1 : (re == 0) = true := by simp [he]
          clear he
          have k0 := cell_blk HQ8.out 0 _ rfl
          have k1 := cell_blk HQ8.out 1 _ rfl
          have k2 := cell_blk HQ8.out 2 _ rfl
          have k3 := cell_blk HQ8.out 3 _ rfl
          have k4 := cell_blk HQ8.out 4 _ rfl
          have k5 := cell_blk HQ8.out 5 _ rfl
          have k6 := cell_blk HQ8.out 6 _ rfl
          have k7 := cell_blk HQ8.out 7 _ rfl
          have k8 := cell_blk HQ8.out 8 _ rfl
          have z0 := cell_blk HX8.out 0 _ rfl
          have z1 := cell_blk HX8.out 1 _ rfl
          have z2 := cell_blk HX8.out 2 _ rfl
          have z3 := cell_blk HX8.out 3 _ rfl
          have z4 := cell_blk HX8.out 4 _ rfl
          have z5 := cell_blk HX8.out 5 _ rfl
          have z6 := cell_blk HX8.out 6 _ rfl
          have z7 := cell_blk HX8.out 7 _ rfl
          have z8 := cell_blk HX8.out 8 _ rfl
          have fk := frz_blk HX8.out
          go_wp2_with fail
          obtain ⟨hoff, hsz9⟩ := nine_off W8 w.heap.size (.int .i64 rid) (.int .i64 rld) (.int .i64 rep) (.int .i64 rvr) (.slice x1 rl1.length y1) (.slice x2 rl2.length y2) (.slice x3 rl3.length y3) (.slice x4 rl4.length y4) (.int .i64 rmn)
          have HX9 := hid (nine_q HX8.out rfl (.int .i64 rid) (.int .i64 rld) (.int .i64 rep) (.int .i64 rvr) (.slice x1 rl1.length y1) (.slice x2 rl2.length y2) (.slice x3 rl3.length y3) (.slice x4 rl4.length y4) (.int .i64 rmn))
          have HB9 := hid (nine_below HB8.out (Nat.le_refl _) (.int .i64 rid) (.int .i64 rld) (.int .i64 rep) (.int .i64 rvr) (.slice x1 rl1.length y1) (.slice x2 rl2.length y2) (.slice x3 rl3.length y3) (.slice x4 rl4.length y4) (.int .i64 rmn))
          have HP9 := hid (HA8.out.off HI3.out hoff hsz9)
          clear hoff hsz9 z0 z1 z2 z3 z4 z5 z6 z7 z8 k0 k1 k2 k3 k4 k5 k6 k7 k8 fk
          generalize (((((((((W8.setCell ⟨w.heap.size, 0, none⟩ (.int .i64 rid)).setCell ⟨w.heap.size, 1, none⟩ (.int .i64 rld)).setCell ⟨w.heap.size, 2, none⟩ (.int .i64 rep)).setCell ⟨w.heap.size, 3, none⟩ (.int .i64 rvr)).setCell ⟨w.heap.size, 4, none⟩ (.slice x1 rl1.length y1)).setCell ⟨w.heap.size, 5, none⟩ (.slice x2 rl2.length y2)).setCell ⟨w.heap.size, 6, none⟩ (.slice x3 rl3.length y3)).setCell ⟨w.heap.size, 7, none⟩ (.slice x4 rl4.length y4)).setCell ⟨w.heap.size, 8, none⟩ (.int .i64 rmn)) = W9 at *
          go_roundg (ops.length - (k + 1))
          case measure => omega
          case rel => exact ⟨k + 1, by omega, Nat.le_refl _, by go_num, ⟨rid, rld, rep, rvr, rl1, rl2, rl3, rl4, rmn⟩, _, HX9.out, HP9.out, HI3.out, HB9.out⟩
        · have he1 : (re == 0) = false := by simp [he]
          clear he
          go_wp2_with fail
          go_roundg (ops.length - (k + 1))
          case measure => omega
          case rel => exact ⟨k + 1, by omega, Nat.le_refl _, by go_num, ⟨id, ld, ep, vr, isr, reps, add, rem, mn⟩, _, HX8.out, HP8.out, HIr.out, HB8.out⟩
end Go.Proofs.Ytfahepeemodcbaa

namespace Go.Proofs.Ytfahepeemodcbaa
open Go.ChangeShapes Go.WideShapes Go.ChangeAt Go.RowKit
set_option linter.unusedVariables false

set_option maxRecDepth 100000 in
theorem movePlays_lifted (os : Os) (started : os.Started) (H : Type) (enc : TypeId × Value → H) :
    ReturnsInHanded {} Try.checked os 4 .any (Rows.movePlaysSpec.pre6 enc Try.prog Try.f4 Rows.movePlaysRow.domain false) (Rows.movePlaysSpec.post enc Try.prog Try.f4 false true false false) := by
  refine returnsInHanded_of_change_sized (C := Try.checked) own started (by kernel_rfl) Try.func4
    (ChangeSpec.witness6 (enc := enc) (C := Try.checked) false ⟨#[], #[.agg #[.int .i64 0, .int .i64 0, .int .i64 0, .int .i64 0, .slice none 0 0, .slice none 0 0, .slice none 0 0, .slice none 0 0, .int .i64 0], .slice none 0 0], []⟩ 8 (by kernel_rfl) (by kernel_rfl) (by kernel_rfl) (by kernel_rfl)) ?_
  intro W base args ds gs before hval0 hW hcnd hsz0 _
  have hval : ∀ (j : Nat) t v, Try.f4.params[j]? = some t → args[j]? = some v → Value.okWide Try.prog W .any base t v := hval0
  have hW' := hW
  obtain ⟨p, q, hA0, hV, rfl, hfz, hnd⟩ := hW
  have hA : DataW.TrodAll enc Try.prog W 0 (fun _ => true) true Try.f4.params.toList args.toList ds p := hA0
  have hsz : (DataW.weightsEach Try.prog (Try.f4.params.toList ++ Rows.movePlaysSpec.plain.varTypes Try.prog) (ds ++ gs)).all (· ≤ reachBytes) = true := hsz0
  rw [Try.params4] at hA hval hsz
  obtain ⟨v0, vs0, d0, ds0, p0, q0, hargs, rfl, rfl, h0, r0⟩ := trodAll_cons hA
  obtain ⟨v1, vs1, d1, ds1, p1, q1, rfl, rfl, rfl, h1, r1⟩ := trodAll_cons r0
  obtain ⟨rfl, rfl, rfl⟩ := trodAll_nil r1
  obtain rfl : args = #[v0, v1] := by cases args; simp_all
  obtain ⟨rfl, rfl⟩ := trodVars_none hV
  have k0 := h0
  have lt0 : ∀ x ∈ p0, x.block < W.heap.size := by obtain ⟨m, hm⟩ := k0; exact DataW.trod_lt m _ _ _ hm
  obtain ⟨g0, ec0, _⟩ := okWide_struct Try.underlying24 (hval 0 24 v0 rfl rfl)
  obtain ⟨z0, w0⟩ := state_of ec0 h0 (light_of hsz 0 rfl rfl)
  have k1 := h1
  have lt1 : ∀ x ∈ p1, x.block < W.heap.size := by obtain ⟨m, hm⟩ := k1; exact DataW.trod_lt m _ _ _ hm
  obtain ⟨a1, len1, cap1, ec1⟩ := okWide_slice Try.underlying35 (hval 1 35 v1 rfl rfl)
  obtain ⟨z1, w1⟩ := script_of ec1 h1 (light_of hsz 1 rfl rfl)
  clear hA0 hval0
  have hwalk := plays_walk w0 w1
  refine hwalk.mono fun e W' ⟨he, bel⟩ => ?_
  subst he
  exact ⟨_, rfl, _, _, _, [], _, [], hW', trodAll_mk1 (shut_bool Try.underlying4 _), (trodAll_cons_mk (Below.trod laidOut (by kernel_rfl) (of_decide_eq_true (by kernel_rfl)) k0 bel lt0) (trodAll_cons_mk (Below.trod laidOut (by kernel_rfl) (of_decide_eq_true (by kernel_rfl)) k1 bel lt1) trodAll_mk0)), rfl, bel.frame _, fun h => by cases h⟩

theorem movePlays_over : Rows.movePlaysRow.holds Try.pinned (OpenSpec.ofChange Rows.movePlaysSpec) :=
  OpenClaim.holds_of_wide 4 Try.f4 rfl rfl rfl rfl rfl rfl rfl ⟨rfl, rfl, rfl, rfl, rfl⟩ rfl rfl rfl rfl rfl (by kernel_rfl) Try.func4 (by kernel_rfl)
    (of_decide_eq_true (by kernel_rfl)) (by unfold Func.isWrapper; first | (rw [if_pos (by decide +kernel)]; kernel_rfl) | (rw [if_neg (by decide +kernel)]; exact ⟨rfl, rfl⟩))
    (fun os started H enc _ => movePlays_lifted os started H enc)

/- The statement. -/
theorem movePlays_proved : Rows.MovePlaysSaid := movePlays_over
#print axioms movePlays_proved
end Go.Proofs.Ytfahepeemodcbaa
