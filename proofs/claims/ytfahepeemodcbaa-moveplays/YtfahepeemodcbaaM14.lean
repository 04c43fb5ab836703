/- A move that is begun and cancelled. -/
import Derived.Test.YtfahepeemodcbaaM13
import Derived.Test.YtfahepeemodcbaaM10b
namespace Go.Proofs.Ytfahepeemodcbaa
open Go.RowKit Go.Maps
set_option linter.unusedSimpArgs false
set_option linter.unusedVariables false
set_option maxRecDepth 100000

theorem Res.opens {X : Nat → Prop} {W w' : World} {p : Pt} {n : Int} {e : Ending} (h : Res X W (p, n) e w') : ∃ x1 y1 x2 y2 x3 y3 x4 y4, e = .returned (.tuple #[.agg #[.int .i64 p.id, .int .i64 p.leader, .int .i64 p.epoch, .int .i64 p.ver, .slice x1 p.isr.length y1, .slice x2 p.reps.length y2, .slice x3 p.add.length y3, .slice x4 p.rem.length y4, .int .i64 p.min], .int .i64 n]) ∧ PartM w' (.agg #[.int .i64 p.id, .int .i64 p.leader, .int .i64 p.epoch, .int .i64 p.ver, .slice x1 p.isr.length y1, .slice x2 p.reps.length y2, .slice x3 p.add.length y3, .slice x4 p.rem.length y4, .int .i64 p.min]) p ∧ Below W.heap.size W w' := res_lit h
theorem len_zero {l : List Int} (h : l = []) : (l.length : Int) = 0 := by rw [h]; rfl
theorem same_moving {q : Pt} : (q.add = [] ∧ q.rem = []) ↔ q.add.length + q.rem.length = 0 := by
  constructor
  · rintro ⟨h1, h2⟩; rw [h1, h2]; rfl
  · intro h; exact ⟨List.eq_nil_of_length_eq_zero (by omega), List.eq_nil_of_length_eq_zero (by omega)⟩
set_option maxHeartbeats 12800000 in
theorem back_walk {w : World} {v m u : Value} {p : Pt} {t up : List Int} (h : PartM w v p) (hm : IL w m t) (hu : IL w u up) : Calls Try.prog 6 #[v, m, u] w fun e w' => e = .returned (.bool true) ∧ Below w.heap.size w w' := by
  obtain ⟨id, ld, ep, vr, isr, reps, add, rem, mn⟩ := p
  obtain ⟨a1, c1, a2, c2, a3, c3, a4, c4, rfl, q1, q2, q3, q4, i0, i1, i2, i3, i4⟩ := h.open
  simp only at q1 q2 q3 q4 i0 i1 i2 i3 i4 ⊢
  have Q1 := hid q1
  have Q2 := hid q2
  have Q3 := hid q3
  have Q4 := hid q4
  clear h q1 q2 q3 q4
  have HX : Hid ((w.alloc (.cells #[.int .i64 id, .int .i64 ld, .int .i64 ep, .int .i64 vr, .slice a1 isr.length c1, .slice a2 reps.length c2, .slice a3 add.length c3, .slice a4 rem.length c4, .int .i64 mn] 24)).heap[w.heap.size]? = some (.cells #[.int .i64 id, .int .i64 ld, .int .i64 ep, .int .i64 vr, .slice a1 isr.length c1, .slice a2 reps.length c2, .slice a3 add.length c3, .slice a4 rem.length c4, .int .i64 mn] 24)) := heap_alloc_new w _
  have HB : Hid (Below w.heap.size w (w.alloc (.cells #[.int .i64 id, .int .i64 ld, .int .i64 ep, .int .i64 vr, .slice a1 isr.length c1, .slice a2 reps.length c2, .slice a3 add.length c3, .slice a4 rem.length c4, .int .i64 mn] 24))) := (Below.refl _ _).alloc (Nat.le_refl _) _
  have hsz : (w.alloc (.cells #[.int .i64 id, .int .i64 ld, .int .i64 ep, .int .i64 vr, .slice a1 isr.length c1, .slice a2 reps.length c2, .slice a3 add.length c3, .slice a4 rem.length c4, .int .i64 mn] 24)).heap.size = w.heap.size + 1 := by simp
  obtain ⟨ma, mc, rfl, _⟩ := hm.shape
  obtain ⟨ua, uc, rfl, _⟩ := hu.shape
  have QM := hid hm
  have QU := hid hu
  have f3 := Q3.out.few
  have f4 := Q4.out.few
  have HP : Hid (∀ W, Below w.heap.size w W → PartM W (.agg #[.int .i64 id, .int .i64 ld, .int .i64 ep, .int .i64 vr, .slice a1 isr.length c1, .slice a2 reps.length c2, .slice a3 add.length c3, .slice a4 rem.length c4, .int .i64 mn]) ⟨id, ld, ep, vr, isr, reps, add, rem, mn⟩) := fun W hb => ⟨_, _, _, _, rfl, Q1.out.under hb, Q2.out.under hb, Q3.out.under hb, Q4.out.under hb, i0, i1, i2, i3, i4⟩
  have HQ2 := hid Q2.out
  have HQ1 := hid Q1.out
  have G12 : Hid (∀ W, Below w.heap.size w W → Calls Try.prog 12 #[.agg #[.int .i64 id, .int .i64 ld, .int .i64 ep, .int .i64 vr, .slice a1 isr.length c1, .slice a2 reps.length c2, .slice a3 add.length c3, .slice a4 rem.length c4, .int .i64 mn]] W fun e w' => e = .returned (.bool (rightB ⟨id, ld, ep, vr, isr, reps, add, rem, mn⟩)) ∧ Below W.heap.size W w') := fun W hb => right_any (HP.out W hb)
  have HRT : Hid (rightB ⟨id, ld, ep, vr, isr, reps, add, rem, mn⟩ = true → RightP ⟨id, ld, ep, vr, isr, reps, add, rem, mn⟩) := fun e => rightB_iff.1 e
  generalize rightB ⟨id, ld, ep, vr, isr, reps, add, rem, mn⟩ = B1 at *
  clear hm hu i0 i1 i2 i3 i4 Q1 Q2 Q3 Q4
  go_enter Try.func6, Try.ntmps6
  go_wp2_with fail
  generalize w.alloc (.cells #[.int .i64 id, .int .i64 ld, .int .i64 ep, .int .i64 vr, .slice a1 isr.length c1, .slice a2 reps.length c2, .slice a3 add.length c3, .slice a4 rem.length c4, .int .i64 mn] 24) = W0 at *
  refine (shown_any _).mono ?_
  rintro e W1 ⟨rfl, hb⟩
  have HB1 := hid (HB.out.trans (hb.mono HB.out.size))
  have HX1 := hid (blk_under HX.out hb)
  clear hb hsz
  have k0 := cell_blk HX1.out 0 _ rfl
  have k1 := cell_blk HX1.out 1 _ rfl
  have k2 := cell_blk HX1.out 2 _ rfl
  have k3 := cell_blk HX1.out 3 _ rfl
  have k4 := cell_blk HX1.out 4 _ rfl
  have k5 := cell_blk HX1.out 5 _ rfl
  have k6 := cell_blk HX1.out 6 _ rfl
  have k7 := cell_blk HX1.out 7 _ rfl
  have k8 := cell_blk HX1.out 8 _ rfl
  go_wp2_with fail
  refine (G12.out _ HB1.out).mono ?_
  rintro e W2 ⟨rfl, hb⟩
  have HB2 := hid (HB1.out.trans (hb.mono HB1.out.size))
  have HX2 := hid (blk_under HX1.out hb)
  clear hb k0 k1 k2 k3 k4 k5 k6 k7 k8
  have k0 := cell_blk HX2.out 0 _ rfl
  have k1 := cell_blk HX2.out 1 _ rfl
  have k2 := cell_blk HX2.out 2 _ rfl
  have k3 := cell_blk HX2.out 3 _ rfl
  have k4 := cell_blk HX2.out 4 _ rfl
  have k5 := cell_blk HX2.out 5 _ rfl
  have k6 := cell_blk HX2.out 6 _ rfl
  have k7 := cell_blk HX2.out 7 _ rfl
  have k8 := cell_blk HX2.out 8 _ rfl
  cases B1
  · go_wp2_with fail
    go_ret
    exact ⟨rfl, HB2.out⟩
  have HRP := hid (HRT.out rfl)
  clear HRT
  by_cases h0 : 0 < add.length + rem.length
  · have h0' : (0 : Int) < (add.length : Int) + (rem.length : Int) := by omega
    go_wp2_with fail
    go_ret
    exact ⟨rfl, HB2.out⟩
  have h0' : ¬ (0 : Int) < (add.length : Int) + (rem.length : Int) := by omega
  have ha : add = [] := List.eq_nil_of_length_eq_zero (by omega)
  have hr : rem = [] := List.eq_nil_of_length_eq_zero (by omega)
  have G19 := hid (begin_any (HP.out W2 HB2.out) (QM.out.under HB2.out) (QU.out.under HB2.out))
  have HBP : Hid (∀ q, beginP ⟨id, ld, ep, vr, isr, reps, add, rem, mn⟩ t up = (q, 0) → ¬ (q.add = [] ∧ q.rem = []) → (cancelP q up = (Pt.zero, 20) ∧ 999999990 < vr) ∨ ∃ r, cancelP q up = (r, 0) ∧ r.reps.length = reps.length ∧ r.add = [] ∧ r.rem = [] ∧ (∀ x ∈ reps, x ∈ r.reps) ∧ r.isr = isr ∧ r.leader = ld ∧ r.epoch = ep ∧ r.ver = vr + 2) := fun q hq hm => back_pure HRP.out ha hr hq hm
  have hvr := HRP.out.ver
  simp only at hvr
  obtain ⟨hvr1, hvr2⟩ := hvr
  have HSZ : Hid ((add.length : Int) = 0 ∧ (rem.length : Int) = 0) := ⟨len_zero ha, len_zero hr⟩
  clear ha hr
  generalize hbg : beginP ⟨id, ld, ep, vr, isr, reps, add, rem, mn⟩ t up = rq at *
  obtain ⟨⟨qid, qld, qep, qvr, qisr, qreps, qadd, qrem, qmn⟩, qe⟩ := rq
  clear hbg
  go_wp2_with fail
  refine (G19.out.mono fun e w' h => h.opens).mono ?_
  rintro e W3 ⟨qx1, qy1, qx2, qy2, qx3, qy3, qx4, qy4, rfl, pq, hb⟩
  simp only at pq
  have HB3 := hid (HB2.out.trans (hb.mono HB2.out.size))
  have HX3 := hid (blk_under HX2.out hb)
  have HPQ := hid pq
  have g3 : qadd.length ≤ 17592186044415 := by obtain ⟨_, _, _, _, e9, _, _, g, _⟩ := pq; exact g.few
  have g4 : qrem.length ≤ 17592186044415 := by obtain ⟨_, _, _, _, e9, _, _, _, g, _⟩ := pq; exact g.few
  clear hb pq k0 k1 k2 k3 k4 k5 k6 k7 k8 G19
  have k0 := cell_blk HX3.out 0 _ rfl
  have k1 := cell_blk HX3.out 1 _ rfl
  have k2 := cell_blk HX3.out 2 _ rfl
  have k3 := cell_blk HX3.out 3 _ rfl
  have k4 := cell_blk HX3.out 4 _ rfl
  have k5 := cell_blk HX3.out 5 _ rfl
  have k6 := cell_blk HX3.out 6 _ rfl
  have k7 := cell_blk HX3.out 7 _ rfl
  have k8 := cell_blk HX3.out 8 _ rfl
  go_upto_region 6 with fail
  have HBN : Hid (Below W3.heap.size W3 (W3.alloc (.cells #[.int .i64 qid, .int .i64 qld, .int .i64 qep, .int .i64 qvr, .slice qx1 qisr.length qy1, .slice qx2 qreps.length qy2, .slice qx3 qadd.length qy3, .slice qx4 qrem.length qy4, .int .i64 qmn] 24))) := (Below.refl _ _).alloc (Nat.le_refl _) _
  have HQX : Hid ((W3.alloc (.cells #[.int .i64 qid, .int .i64 qld, .int .i64 qep, .int .i64 qvr, .slice qx1 qisr.length qy1, .slice qx2 qreps.length qy2, .slice qx3 qadd.length qy3, .slice qx4 qrem.length qy4, .int .i64 qmn] 24)).heap[W3.heap.size]? = some (.cells #[.int .i64 qid, .int .i64 qld, .int .i64 qep, .int .i64 qvr, .slice qx1 qisr.length qy1, .slice qx2 qreps.length qy2, .slice qx3 qadd.length qy3, .slice qx4 qrem.length qy4, .int .i64 qmn] 24)) := heap_alloc_new _ _
  have HB4 := hid (HB3.out.trans (HBN.out.mono HB3.out.size))
  have HX4 := hid (blk_under HX3.out HBN.out)
  have HPQ4 := hid (HPQ.out.under HBN.out)
  clear k0 k1 k2 k3 k4 k5 k6 k7 k8 HBN
  generalize W3.alloc (.cells #[.int .i64 qid, .int .i64 qld, .int .i64 qep, .int .i64 qvr, .slice qx1 qisr.length qy1, .slice qx2 qreps.length qy2, .slice qx3 qadd.length qy3, .slice qx4 qrem.length qy4, .int .i64 qmn] 24) = W4 at *
  generalize W3.heap.size = q at *
  have k0 := cell_blk HX4.out 0 _ rfl
  have k1 := cell_blk HX4.out 1 _ rfl
  have k2 := cell_blk HX4.out 2 _ rfl
  have k3 := cell_blk HX4.out 3 _ rfl
  have k4 := cell_blk HX4.out 4 _ rfl
  have k5 := cell_blk HX4.out 5 _ rfl
  have k6 := cell_blk HX4.out 6 _ rfl
  have k7 := cell_blk HX4.out 7 _ rfl
  have k8 := cell_blk HX4.out 8 _ rfl
  have z0 := cell_blk HQX.out 0 _ rfl
  have z1 := cell_blk HQX.out 1 _ rfl
  have z2 := cell_blk HQX.out 2 _ rfl
  have z3 := cell_blk HQX.out 3 _ rfl
  have z4 := cell_blk HQX.out 4 _ rfl
  have z5 := cell_blk HQX.out 5 _ rfl
  have z6 := cell_blk HQX.out 6 _ rfl
  have z7 := cell_blk HQX.out 7 _ rfl
  have z8 := cell_blk HQX.out 8 _ rfl
  go_wp2_with fail
  refine (same_any (HP.out W4 HB4.out) HPQ4.out).mono ?_
  rintro e W5 ⟨rfl, hb⟩
  have HB5 := hid (HB4.out.trans (hb.mono HB4.out.size))
  have HX5 := hid (blk_under HX4.out hb)
  have HQ5 := hid (blk_under HQX.out hb)
  have HPQ5 := hid (HPQ4.out.under hb)
  clear hb k0 k1 k2 k3 k4 k5 k6 k7 k8 z0 z1 z2 z3 z4 z5 z6 z7 z8 HQX HPQ4 HX4 HB4
  have k0 := cell_blk HX5.out 0 _ rfl
  have k1 := cell_blk HX5.out 1 _ rfl
  have k2 := cell_blk HX5.out 2 _ rfl
  have k3 := cell_blk HX5.out 3 _ rfl
  have k4 := cell_blk HX5.out 4 _ rfl
  have k5 := cell_blk HX5.out 5 _ rfl
  have k6 := cell_blk HX5.out 6 _ rfl
  have k7 := cell_blk HX5.out 7 _ rfl
  have k8 := cell_blk HX5.out 8 _ rfl
  have z0 := cell_blk HQ5.out 0 _ rfl
  have z1 := cell_blk HQ5.out 1 _ rfl
  have z2 := cell_blk HQ5.out 2 _ rfl
  have z3 := cell_blk HQ5.out 3 _ rfl
  have z4 := cell_blk HQ5.out 4 _ rfl
  have z5 := cell_blk HQ5.out 5 _ rfl
  have z6 := cell_blk HQ5.out 6 _ rfl
  have z7 := cell_blk HQ5.out 7 _ rfl
  have z8 := cell_blk HQ5.out 8 _ rfl
  generalize sameP ⟨id, ld, ep, vr, isr, reps, add, rem, mn⟩ ⟨qid, qld, qep, qvr, qisr, qreps, qadd, qrem, qmn⟩ = B2 at *
  by_cases he : qe = 0
  case neg =>
    have heb : (qe != 0) = true := by simp [he]
    go_wp2_with fail
    go_ret
    exact ⟨rfl, HB5.out⟩
  subst he
  cases B2
  case true =>
    go_wp2_with fail
    go_ret
    exact ⟨rfl, HB5.out⟩
  by_cases hz : qadd.length + qrem.length = 0
  · have hz' : (qadd.length : Int) + (qrem.length : Int) = 0 := by omega
    go_wp2_with fail
    go_ret
    exact ⟨rfl, HB5.out⟩
  have hz' : ¬ (qadd.length : Int) + (qrem.length : Int) = 0 := by omega
  have HCP := hid (HBP.out ⟨qid, qld, qep, qvr, qisr, qreps, qadd, qrem, qmn⟩ rfl (fun e => hz (same_moving.1 e)))
  have G20 := hid (cancel_any HPQ5.out (QU.out.under HB5.out))
  generalize hcc : cancelP ⟨qid, qld, qep, qvr, qisr, qreps, qadd, qrem, qmn⟩ up = rr at *
  obtain ⟨⟨rid, rld, rep, rvr, risr, rreps, radd, rrem, rmn⟩, re⟩ := rr
  clear hcc HBP
  go_wp2_with fail
  refine (G20.out.mono fun e w' h => h.opens).mono ?_
  rintro e W6 ⟨rx1, ry1, rx2, ry2, rx3, ry3, rx4, ry4, rfl, pr, hb⟩
  simp only at pr
  have HB6 := hid (HB5.out.trans (hb.mono HB5.out.size))
  have HX6 := hid (blk_under HX5.out hb)
  have HPR := hid pr
  clear hb pr k0 k1 k2 k3 k4 k5 k6 k7 k8 z0 z1 z2 z3 z4 z5 z6 z7 z8 G20 HPQ5 HQ5
  have k0 := cell_blk HX6.out 0 _ rfl
  have k1 := cell_blk HX6.out 1 _ rfl
  have k2 := cell_blk HX6.out 2 _ rfl
  have k3 := cell_blk HX6.out 3 _ rfl
  have k4 := cell_blk HX6.out 4 _ rfl
  have k5 := cell_blk HX6.out 5 _ rfl
  have k6 := cell_blk HX6.out 6 _ rfl
  have k7 := cell_blk HX6.out 7 _ rfl
  have k8 := cell_blk HX6.out 8 _ rfl
  go_upto_region 10 with fail
  have HBN : Hid (Below W6.heap.size W6 (W6.alloc (.cells #[.int .i64 rid, .int .i64 rld, .int .i64 rep, .int .i64 rvr, .slice rx1 risr.length ry1, .slice rx2 rreps.length ry2, .slice rx3 radd.length ry3, .slice rx4 rrem.length ry4, .int .i64 rmn] 24))) := (Below.refl _ _).alloc (Nat.le_refl _) _
  have HRX : Hid ((W6.alloc (.cells #[.int .i64 rid, .int .i64 rld, .int .i64 rep, .int .i64 rvr, .slice rx1 risr.length ry1, .slice rx2 rreps.length ry2, .slice rx3 radd.length ry3, .slice rx4 rrem.length ry4, .int .i64 rmn] 24)).heap[W6.heap.size]? = some (.cells #[.int .i64 rid, .int .i64 rld, .int .i64 rep, .int .i64 rvr, .slice rx1 risr.length ry1, .slice rx2 rreps.length ry2, .slice rx3 radd.length ry3, .slice rx4 rrem.length ry4, .int .i64 rmn] 24)) := heap_alloc_new _ _
  have HB7 := hid (HB6.out.trans (HBN.out.mono HB6.out.size))
  have HX7 := hid (blk_under HX6.out HBN.out)
  have HPR7 := hid (HPR.out.under HBN.out)
  clear k0 k1 k2 k3 k4 k5 k6 k7 k8 HBN
  generalize W6.alloc (.cells #[.int .i64 rid, .int .i64 rld, .int .i64 rep, .int .i64 rvr, .slice rx1 risr.length ry1, .slice rx2 rreps.length ry2, .slice rx3 radd.length ry3, .slice rx4 rrem.length ry4, .int .i64 rmn] 24) = W7 at *
  generalize W6.heap.size = q2 at *
  have k0 := cell_blk HX7.out 0 _ rfl
  have k1 := cell_blk HX7.out 1 _ rfl
  have k2 := cell_blk HX7.out 2 _ rfl
  have k3 := cell_blk HX7.out 3 _ rfl
  have k4 := cell_blk HX7.out 4 _ rfl
  have k5 := cell_blk HX7.out 5 _ rfl
  have k6 := cell_blk HX7.out 6 _ rfl
  have k7 := cell_blk HX7.out 7 _ rfl
  have k8 := cell_blk HX7.out 8 _ rfl
  have z0 := cell_blk HRX.out 0 _ rfl
  have z1 := cell_blk HRX.out 1 _ rfl
  have z2 := cell_blk HRX.out 2 _ rfl
  have z3 := cell_blk HRX.out 3 _ rfl
  have z4 := cell_blk HRX.out 4 _ rfl
  have z5 := cell_blk HRX.out 5 _ rfl
  have z6 := cell_blk HRX.out 6 _ rfl
  have z7 := cell_blk HRX.out 7 _ rfl
  have z8 := cell_blk HRX.out 8 _ rfl
  rcases HCP.out with ⟨hc, hver⟩ | ⟨r, hc, hl, ra, rr, hsub, hisr, hld, hep, hv2⟩
  · cases hc
    go_wp2_with fail
    go_ret
    exact ⟨ret_bool (by simp [hver]), HB7.out⟩
  cases hc
  simp only at hl ra rr hsub hisr hld hep hv2
  subst ra rr hisr hld hep hv2
  have HSUB := hid hsub
  have HLEN : Hid (rreps.length = reps.length) := hl
  have hl' : ¬ ((rreps.length : Int) ≠ (reps.length : Int)) := by omega
  have hlb : ((rreps.length : Int) != (reps.length : Int)) = false := by simp; omega
  have fr := HQ2.out.few
  have HRL : Hid (IL W7 (.slice rx2 rreps.length ry2) rreps ∧ IL W7 (.slice rx1 risr.length ry1) risr) := by
    obtain ⟨_, _, _, _, e9, g1, g2, _⟩ := HPR7.out
    cases e9
    exact ⟨g2, g1⟩
  have HQ2' := hid (HQ2.out.under HB7.out)
  have HQ1' := hid (HQ1.out.under HB7.out)
  clear hsub hl hl' HCP HPR
  go_wp2_with fail
  go_loopg [14] reps.length (fun kx s14 wr => ∃ k : Nat, k ≤ reps.length ∧ reps.length - k ≤ kx ∧ s14 = .int .i64 (k : Int) ∧ Hid (Below W7.heap.size W7 wr))
  case atStart => exact ⟨0, Nat.zero_le _, by omega, rfl, Below.refl _ _⟩
  case round =>
    obtain ⟨k, hk, hkx, rfl, HR⟩ := hrel
    have HXr := hid (blk_under HX7.out HR.out)
    have HRr := hid (blk_under HRX.out HR.out)
    clear k0 k1 k2 k3 k4 k5 k6 k7 k8 z0 z1 z2 z3 z4 z5 z6 z7 z8
    have k1 := cell_blk HXr.out 1 _ rfl
    have k2 := cell_blk HXr.out 2 _ rfl
    have k3 := cell_blk HXr.out 3 _ rfl
    have k4 := cell_blk HXr.out 4 _ rfl
    have k5 := cell_blk HXr.out 5 _ rfl
    have z1 := cell_blk HRr.out 1 _ rfl
    have z2 := cell_blk HRr.out 2 _ rfl
    have z3 := cell_blk HRr.out 3 _ rfl
    have z4 := cell_blk HRr.out 4 _ rfl
    have z5 := cell_blk HRr.out 5 _ rfl
    by_cases hlt : k < reps.length
    · obtain ⟨⟨_, _, e9, _, _, _, hat⟩, hok, _⟩ := HQ2'.out
      cases e9
      obtain ⟨b, off, rfl, _, hc⟩ := hat (by intro e; rw [e] at hlt; simp at hlt)
      have hck := kept_cell HR.out (hc k hlt)
      have hok' := hok reps[k] (by simp)
      have HI : Hid (hasB rreps reps[k] = true) := hasB_iff.2 (HSUB.out _ (by simp))
      have hlt' : (k : Int) < (reps.length : Int) := by omega
      have hk0 : (0 : Int) ≤ (k : Int) := by omega
      generalize reps[k] = y at *
      clear hc hat hok
      have H21 : Hid (∀ W, Below W7.heap.size W7 W → Calls Try.prog 21 #[.slice rx2 rreps.length ry2, .int .i64 y] W fun e w' => e = .returned (.bool true) ∧ w' = W) := fun W hb => (in_any (HRL.out.1.under hb) y hok').mono fun e w' ⟨a, b⟩ => ⟨by rw [a, HI.out], b.symm⟩
      go_wp2_with fail
      go_quiet ((go_at_call 21; exact Calls.quiet_of_same (H21.out _ (below_drewN HR.out _))))
      go_wp2_with fail
      go_roundg (reps.length - (k + 1))
      case measure => omega
      case rel => exact ⟨k + 1, by omega, Nat.le_refl _, by go_num, by first | exact HR.out | exact HR.out.drew | exact below_drewN HR.out _⟩
    · have hlt' : ¬ (k : Int) < (reps.length : Int) := by omega
      go_wp2_with fail
      refine (sameList_any (HRL.out.2.under HR.out) (HQ1'.out.under HR.out)).mono ?_
      rintro e W8 ⟨rfl, hb⟩
      have HXs := hid (blk_under HXr.out hb)
      have HRs := hid (blk_under HRr.out hb)
      have HB8 := hid (HB7.out.trans ((HR.out.trans (hb.mono HR.out.size)).mono HB7.out.size))
      rw [decide_eq_true rfl]
      clear hb k1 k2 k3 k4 k5 z1 z2 z3 z4 z5
      have k1 := cell_blk HXs.out 1 _ rfl
      have k2 := cell_blk HXs.out 2 _ rfl
      have k3 := cell_blk HXs.out 3 _ rfl
      have z1 := cell_blk HRs.out 1 _ rfl
      have z2 := cell_blk HRs.out 2 _ rfl
      have z3 := cell_blk HRs.out 3 _ rfl
      go_wp2_with fail
      go_ret
      exact ⟨by first | rfl | exact ret_bool (by simp), HB8.out⟩
end Go.Proofs.Ytfahepeemodcbaa
