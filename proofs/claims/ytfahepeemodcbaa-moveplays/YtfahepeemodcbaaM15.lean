/- A move that ends. -/
import Derived.Test.YtfahepeemodcbaaM14
import Derived.Test.YtfahepeemodcbaaM10c
namespace Go.Proofs.Ytfahepeemodcbaa
open Go.RowKit Go.Maps
set_option linter.unusedSimpArgs false
set_option linter.unusedVariables false
set_option maxRecDepth 100000

theorem set_at {W : World} {q j : Nat} {cs cs' : Array Value} {v : Value} (h : W.heap[q]? = some (.cells cs 24)) (hc : cs.setIfInBounds j v = cs') : (W.setCell ⟨q, j, none⟩ v).heap[q]? = some (.cells cs' 24) := by rw [← hc]; exact set_box h
theorem nine_q {W : World} {q : Nat} {ns : Array Value} (h : W.heap[q]? = some (.cells ns 24)) (hz : ns.size = 9) (v0 v1 v2 v3 v4 v5 v6 v7 v8 : Value) : ((((((((((W.setCell ⟨q, 0, none⟩ (v0)).setCell ⟨q, 1, none⟩ (v1)).setCell ⟨q, 2, none⟩ (v2)).setCell ⟨q, 3, none⟩ (v3)).setCell ⟨q, 4, none⟩ (v4)).setCell ⟨q, 5, none⟩ (v5)).setCell ⟨q, 6, none⟩ (v6)).setCell ⟨q, 7, none⟩ (v7)).setCell ⟨q, 8, none⟩ (v8))).heap[q]? = some (.cells #[v0, v1, v2, v3, v4, v5, v6, v7, v8] 24) := by
  obtain ⟨l⟩ := ns
  match l, hz, h with
  | [z0, z1, z2, z3, z4, z5, z6, z7, z8], _, h =>
    have h0 := set_at h (show (#[z0, z1, z2, z3, z4, z5, z6, z7, z8] : Array Value).setIfInBounds 0 v0 = #[v0, z1, z2, z3, z4, z5, z6, z7, z8] from rfl)
    have h1 := set_at h0 (show (#[v0, z1, z2, z3, z4, z5, z6, z7, z8] : Array Value).setIfInBounds 1 v1 = #[v0, v1, z2, z3, z4, z5, z6, z7, z8] from rfl)
    have h2 := set_at h1 (show (#[v0, v1, z2, z3, z4, z5, z6, z7, z8] : Array Value).setIfInBounds 2 v2 = #[v0, v1, v2, z3, z4, z5, z6, z7, z8] from rfl)
    have h3 := set_at h2 (show (#[v0, v1, v2, z3, z4, z5, z6, z7, z8] : Array Value).setIfInBounds 3 v3 = #[v0, v1, v2, v3, z4, z5, z6, z7, z8] from rfl)
    have h4 := set_at h3 (show (#[v0, v1, v2, v3, z4, z5, z6, z7, z8] : Array Value).setIfInBounds 4 v4 = #[v0, v1, v2, v3, v4, z5, z6, z7, z8] from rfl)
    have h5 := set_at h4 (show (#[v0, v1, v2, v3, v4, z5, z6, z7, z8] : Array Value).setIfInBounds 5 v5 = #[v0, v1, v2, v3, v4, v5, z6, z7, z8] from rfl)
    have h6 := set_at h5 (show (#[v0, v1, v2, v3, v4, v5, z6, z7, z8] : Array Value).setIfInBounds 6 v6 = #[v0, v1, v2, v3, v4, v5, v6, z7, z8] from rfl)
    have h7 := set_at h6 (show (#[v0, v1, v2, v3, v4, v5, v6, z7, z8] : Array Value).setIfInBounds 7 v7 = #[v0, v1, v2, v3, v4, v5, v6, v7, z8] from rfl)
    have h8 := set_at h7 (show (#[v0, v1, v2, v3, v4, v5, v6, v7, z8] : Array Value).setIfInBounds 8 v8 = #[v0, v1, v2, v3, v4, v5, v6, v7, v8] from rfl)
    exact h8
theorem nine_below {B : Nat} {w W : World} {q : Nat} (h : Below B w W) (hq : B ≤ q) (v0 v1 v2 v3 v4 v5 v6 v7 v8 : Value) : Below B w ((((((((((W.setCell ⟨q, 0, none⟩ (v0)).setCell ⟨q, 1, none⟩ (v1)).setCell ⟨q, 2, none⟩ (v2)).setCell ⟨q, 3, none⟩ (v3)).setCell ⟨q, 4, none⟩ (v4)).setCell ⟨q, 5, none⟩ (v5)).setCell ⟨q, 6, none⟩ (v6)).setCell ⟨q, 7, none⟩ (v7)).setCell ⟨q, 8, none⟩ (v8))) :=
  ((((((((h.setCell hq v0).setCell hq v1).setCell hq v2).setCell hq v3).setCell hq v4).setCell hq v5).setCell hq v6).setCell hq v7).setCell hq v8
theorem lt_blk {W : World} {q : Nat} {O : Obj} (h : W.heap[q]? = some O) : q < W.heap.size := by
  rcases Nat.lt_or_ge q W.heap.size with h1 | h1
  · exact h1
  · rw [Array.getElem?_eq_none h1] at h; cases h
set_option maxHeartbeats 12800000 in
theorem ends_walk {w : World} {v m : Value} {p : Pt} {t : List Int} (h : PartM w v p) (hm : IL w m t) : Calls Try.prog 7 #[v, m] w fun e w' => e = .returned (.bool true) ∧ Below w.heap.size w w' := by
  obtain ⟨id, ld, ep, vr, isr, reps, add, rem, mn⟩ := p
  obtain ⟨a1, c1, a2, c2, a3, c3, a4, c4, rfl, q1, q2, q3, q4, i0, i1, i2, i3, i4⟩ := h.open
  simp only at q1 q2 q3 q4 i0 i1 i2 i3 i4 ⊢
  have Q1 := hid q1
  have Q2 := hid q2
  have Q3 := hid q3
  have Q4 := hid q4
  clear h q1 q2 q3 q4
  have HX : Hid ((w.alloc (.cells #[.int .i64 id, .int .i64 ld, .int .i64 ep, .int .i64 vr, .slice a1 isr.length c1, .slice a2 reps.length c2, .slice a3 add.length c3, .slice a4 rem.length c4, .int .i64 mn] 24)).heap[w.heap.size]? = some (.cells #[.int .i64 id, .int .i64 ld, .int .i64 ep, .int .i64 vr, .slice a1 isr.length c1, .slice a2 reps.length c2, .slice a3 add.length c3, .slice a4 rem.length c4, .int .i64 mn] 24)) := heap_alloc_new w _
  have HB : Hid (Below w.heap.size w (w.alloc (.cells #[.int .i64 id, .int .i64 ld, .int .i64 ep, .int .i64 vr, .slice a1 isr.length c1, .slice a2 reps.length c2, .slice a3 add.length c3, .slice a4 rem.length c4, .int .i64 mn] 24))) := (Below.refl _ _).alloc (Nat.le_refl _) _
  have hsz : (w.alloc (.cells #[.int .i64 id, .int .i64 ld, .int .i64 ep, .int .i64 vr, .slice a1 isr.length c1, .slice a2 reps.length c2, .slice a3 add.length c3, .slice a4 rem.length c4, .int .i64 mn] 24)).heap.size = w.heap.size + 1 := by simp
  obtain ⟨ma, mc, rfl, _⟩ := hm.shape
  have QM := hid hm
  have f3 := Q3.out.few
  have f4 := Q4.out.few
  have HP : Hid (∀ W, Below w.heap.size w W → PartM W (.agg #[.int .i64 id, .int .i64 ld, .int .i64 ep, .int .i64 vr, .slice a1 isr.length c1, .slice a2 reps.length c2, .slice a3 add.length c3, .slice a4 rem.length c4, .int .i64 mn]) ⟨id, ld, ep, vr, isr, reps, add, rem, mn⟩) := fun W hb => ⟨_, _, _, _, rfl, Q1.out.under hb, Q2.out.under hb, Q3.out.under hb, Q4.out.under hb, i0, i1, i2, i3, i4⟩
  have G12 : Hid (∀ W, Below w.heap.size w W → Calls Try.prog 12 #[.agg #[.int .i64 id, .int .i64 ld, .int .i64 ep, .int .i64 vr, .slice a1 isr.length c1, .slice a2 reps.length c2, .slice a3 add.length c3, .slice a4 rem.length c4, .int .i64 mn]] W fun e w' => e = .returned (.bool (rightB ⟨id, ld, ep, vr, isr, reps, add, rem, mn⟩)) ∧ Below W.heap.size W w') := fun W hb => right_any (HP.out W hb)
  have HRT : Hid (rightB ⟨id, ld, ep, vr, isr, reps, add, rem, mn⟩ = true → RightP ⟨id, ld, ep, vr, isr, reps, add, rem, mn⟩) := fun e => rightB_iff.1 e
  generalize rightB ⟨id, ld, ep, vr, isr, reps, add, rem, mn⟩ = B1 at *
  have HLD : Hid (I64 ld ∧ I64 ep ∧ I64 vr) := ⟨i1, i2, i3⟩
  clear hm i0 i1 i2 i3 i4 Q1 Q2 Q3 Q4
  go_enter Try.func7, Try.ntmps7
  go_wp2_with fail
  generalize w.alloc (.cells #[.int .i64 id, .int .i64 ld, .int .i64 ep, .int .i64 vr, .slice a1 isr.length c1, .slice a2 reps.length c2, .slice a3 add.length c3, .slice a4 rem.length c4, .int .i64 mn] 24) = W0 at *
  refine (shown_any _).mono ?_
  rintro e W1 ⟨rfl, hb⟩
  have HB1 := hid (HB.out.trans (hb.mono HB.out.size))
  have HX1 := hid (blk_under HX.out hb)
  clear hb hsz
  have k0 := cell_blk HX1.out 0 _ rfl
  have k1 := cell_blk HX1.out 1 _ rfl
  have k2 := cell_blk HX1.out 2 _ rfl
  have k3 := cell_blk HX1.out 3 _ rfl
  have k4 := cell_blk HX1.out 4 _ rfl
  have k5 := cell_blk HX1.out 5 _ rfl
  have k6 := cell_blk HX1.out 6 _ rfl
  have k7 := cell_blk HX1.out 7 _ rfl
  have k8 := cell_blk HX1.out 8 _ rfl
  go_upto_region 3 with fail
  have HBA : Hid (Below W1.heap.size W1 (W1.alloc (.cells #[.int .i64 1, .int .i64 2, .int .i64 3, .int .i64 4, .int .i64 5, .int .i64 6, .int .i64 7] 3))) := (Below.refl _ _).alloc (Nat.le_refl _) _
  have HU2 : Hid (IL (W1.alloc (.cells #[.int .i64 1, .int .i64 2, .int .i64 3, .int .i64 4, .int .i64 5, .int .i64 6, .int .i64 7] 3)) (.slice (some ⟨W1.heap.size, 0, none⟩) 7 7) upAll) := il_lit [1, 2, 3, 4, 5, 6, 7] (heap_alloc_new _ _) (lit64 _ rfl) (by decide)
  have HB2 := hid (HB1.out.trans (HBA.out.mono HB1.out.size))
  have HX2 := hid (blk_under HX1.out HBA.out)
  have hgu : w.heap.size < W1.heap.size := lt_blk HX1.out
  have HGU : Hid (w.heap.size < W1.heap.size ∧ W1.heap.size < (W1.alloc (.cells #[.int .i64 1, .int .i64 2, .int .i64 3, .int .i64 4, .int .i64 5, .int .i64 6, .int .i64 7] 3)).heap.size) := ⟨hgu, by simp⟩
  clear HBA k0 k1 k2 k3 k4 k5 k6 k7 k8 hgu
  generalize W1.alloc (.cells #[.int .i64 1, .int .i64 2, .int .i64 3, .int .i64 4, .int .i64 5, .int .i64 6, .int .i64 7] 3) = W2 at *
  generalize W1.heap.size = gu at *
  have k0 := cell_blk HX2.out 0 _ rfl
  have k1 := cell_blk HX2.out 1 _ rfl
  have k2 := cell_blk HX2.out 2 _ rfl
  have k3 := cell_blk HX2.out 3 _ rfl
  have k4 := cell_blk HX2.out 4 _ rfl
  have k5 := cell_blk HX2.out 5 _ rfl
  have k6 := cell_blk HX2.out 6 _ rfl
  have k7 := cell_blk HX2.out 7 _ rfl
  have k8 := cell_blk HX2.out 8 _ rfl
  go_wp2_with fail
  refine (G12.out _ HB2.out).mono ?_
  rintro e W3 ⟨rfl, hb⟩
  have HB3 := hid (HB2.out.trans (hb.mono HB2.out.size))
  have HX3 := hid (blk_under HX2.out hb)
  have HU3 := hid (HU2.out.under hb)
  have HGU3 : Hid (w.heap.size < gu ∧ gu < W3.heap.size) := ⟨HGU.out.1, Nat.lt_of_lt_of_le HGU.out.2 hb.size⟩
  clear hb k0 k1 k2 k3 k4 k5 k6 k7 k8 HGU HU2
  have k0 := cell_blk HX3.out 0 _ rfl
  have k1 := cell_blk HX3.out 1 _ rfl
  have k2 := cell_blk HX3.out 2 _ rfl
  have k3 := cell_blk HX3.out 3 _ rfl
  have k4 := cell_blk HX3.out 4 _ rfl
  have k5 := cell_blk HX3.out 5 _ rfl
  have k6 := cell_blk HX3.out 6 _ rfl
  have k7 := cell_blk HX3.out 7 _ rfl
  have k8 := cell_blk HX3.out 8 _ rfl
  cases B1
  · go_wp2_with fail
    go_ret
    exact ⟨rfl, HB3.out⟩
  have HRP := hid (HRT.out rfl)
  clear HRT
  have hep := HRP.out.epoch
  have hvr := HRP.out.ver
  simp only at hep hvr
  obtain ⟨hep1, hep2⟩ := hep
  obtain ⟨hvr1, hvr2⟩ := hvr
  by_cases h0 : 0 < add.length + rem.length
  · have h0' : (0 : Int) < (add.length : Int) + (rem.length : Int) := by omega
    go_wp2_with fail
    go_ret
    exact ⟨rfl, HB3.out⟩
  have h0' : ¬ (0 : Int) < (add.length : Int) + (rem.length : Int) := by omega
  have ha : add = [] := List.eq_nil_of_length_eq_zero (by omega)
  have hr : rem = [] := List.eq_nil_of_length_eq_zero (by omega)
  by_cases hl0 : ld = 0
  · have hl0b : (ld == 0) = true := by simp [hl0]
    have HHH := hid hl0
    clear hl0 ha hr
    go_wp2_with fail
    go_ret
    exact ⟨rfl, HB3.out⟩
  have hl0b : (ld == 0) = false := by simp [hl0]
  by_cases hv9 : 999999990 < vr
  · clear ha hr
    go_wp2_with fail
    go_ret
    exact ⟨rfl, HB3.out⟩
  by_cases he9 : 999999990 < ep
  · clear ha hr
    go_wp2_with fail
    go_ret
    exact ⟨rfl, HB3.out⟩
  have G19 := hid (begin_any (HP.out W3 HB3.out) (QM.out.under HB3.out) HU3.out)
  have HNM : Hid (∀ q, beginP ⟨id, ld, ep, vr, isr, reps, add, rem, mn⟩ t upAll = (q, 0) → (q.add = [] ∧ q.rem = []) → q.reps = t) := fun q hq hm => not_moving_same ha hr hq hm
  have HAL : Hid (∀ q, beginP ⟨id, ld, ep, vr, isr, reps, add, rem, mn⟩ t upAll = (q, 0) → ¬ (q.add = [] ∧ q.rem = []) → alterP q q.leader q.epoch q.ver q.reps upAll = (⟨id, ld, ep, vr + 2, q.reps, q.reps, q.add, q.rem, mn⟩, 0)) := fun q hq hm => ends_alter HRP.out ha hr hl0 (Int.not_lt.1 hv9) (Int.not_lt.1 he9) hq hm
  have HFN : Hid (∀ q, beginP ⟨id, ld, ep, vr, isr, reps, add, rem, mn⟩ t upAll = (q, 0) → ¬ (q.add = [] ∧ q.rem = []) → ∃ r, finishP ⟨id, ld, ep, vr + 2, q.reps, q.reps, q.add, q.rem, mn⟩ upAll = (r, 0) ∧ r.reps = t ∧ r.leader ∈ t ∧ r.isr.length = t.length ∧ r.add = [] ∧ r.rem = []) := fun q hq hm => ends_finish HRP.out ha hr hl0 (Int.not_lt.1 hv9) (Int.not_lt.1 he9) hq hm
  have HNE : Hid (∀ q, beginP ⟨id, ld, ep, vr, isr, reps, add, rem, mn⟩ t upAll = (q, 0) → ¬ (q.add = [] ∧ q.rem = []) → q.reps ≠ []) := fun q hq hm => by
    obtain ⟨_, e, ht, _⟩ := begun HRP.out ha hr hq hm
    rw [e]
    intro hn
    exact ht.1 (List.append_eq_nil_iff.1 hn).1
  clear ha hr
  generalize hbg : beginP ⟨id, ld, ep, vr, isr, reps, add, rem, mn⟩ t upAll = rq at *
  obtain ⟨⟨qid, qld, qep, qvr, qisr, qreps, qadd, qrem, qmn⟩, qe⟩ := rq
  clear hbg
  go_wp2_with fail
  refine (G19.out.mono fun e w' h => h.opens).mono ?_
  rintro e W4 ⟨qx1, qy1, qx2, qy2, qx3, qy3, qx4, qy4, rfl, pq, hb⟩
  simp only at pq
  have HB4 := hid (HB3.out.trans (hb.mono HB3.out.size))
  have HX4 := hid (blk_under HX3.out hb)
  have HU4 := hid (HU3.out.under hb)
  have HGU4 : Hid (w.heap.size < gu ∧ gu < W4.heap.size) := ⟨HGU3.out.1, Nat.lt_of_lt_of_le HGU3.out.2 hb.size⟩
  have HPQ := hid pq
  have g3 : qadd.length ≤ 17592186044415 := by obtain ⟨_, _, _, _, e9, _, _, g, _⟩ := pq; exact g.few
  have g4 : qrem.length ≤ 17592186044415 := by obtain ⟨_, _, _, _, e9, _, _, _, g, _⟩ := pq; exact g.few
  clear hb pq k0 k1 k2 k3 k4 k5 k6 k7 k8 G19 HU3 HGU3
  go_upto_region 7 with fail
  have HBN : Hid (Below W4.heap.size W4 (W4.alloc (.cells #[.int .i64 qid, .int .i64 qld, .int .i64 qep, .int .i64 qvr, .slice qx1 qisr.length qy1, .slice qx2 qreps.length qy2, .slice qx3 qadd.length qy3, .slice qx4 qrem.length qy4, .int .i64 qmn] 24))) := (Below.refl _ _).alloc (Nat.le_refl _) _
  have HQX : Hid ((W4.alloc (.cells #[.int .i64 qid, .int .i64 qld, .int .i64 qep, .int .i64 qvr, .slice qx1 qisr.length qy1, .slice qx2 qreps.length qy2, .slice qx3 qadd.length qy3, .slice qx4 qrem.length qy4, .int .i64 qmn] 24)).heap[W4.heap.size]? = some (.cells #[.int .i64 qid, .int .i64 qld, .int .i64 qep, .int .i64 qvr, .slice qx1 qisr.length qy1, .slice qx2 qreps.length qy2, .slice qx3 qadd.length qy3, .slice qx4 qrem.length qy4, .int .i64 qmn] 24)) := heap_alloc_new _ _
  have HB5 := hid (HB4.out.trans (HBN.out.mono HB4.out.size))
  have HX5 := hid (blk_under HX4.out HBN.out)
  have HU5 := hid (HU4.out.under HBN.out)
  have HPQ5 := hid (HPQ.out.under HBN.out)
  have HQG : Hid (w.heap.size < gu ∧ gu < W4.heap.size) := HGU4.out
  clear HBN HGU4 HU4
  generalize W4.alloc (.cells #[.int .i64 qid, .int .i64 qld, .int .i64 qep, .int .i64 qvr, .slice qx1 qisr.length qy1, .slice qx2 qreps.length qy2, .slice qx3 qadd.length qy3, .slice qx4 qrem.length qy4, .int .i64 qmn] 24) = W5 at *
  generalize W4.heap.size = q at *
  have z0 := cell_blk HQX.out 0 _ rfl
  have z1 := cell_blk HQX.out 1 _ rfl
  have z2 := cell_blk HQX.out 2 _ rfl
  have z3 := cell_blk HQX.out 3 _ rfl
  have z4 := cell_blk HQX.out 4 _ rfl
  have z5 := cell_blk HQX.out 5 _ rfl
  have z6 := cell_blk HQX.out 6 _ rfl
  have z7 := cell_blk HQX.out 7 _ rfl
  have z8 := cell_blk HQX.out 8 _ rfl
  by_cases he : qe = 0
  case neg =>
    have heb : (qe != 0) = true := by simp [he]
    go_wp2_with fail
    go_ret
    exact ⟨rfl, HB5.out⟩
  subst he
  by_cases hz : qadd.length + qrem.length = 0
  · have hz' : (qadd.length : Int) + (qrem.length : Int) = 0 := by omega
    have HE := hid (HNM.out ⟨qid, qld, qep, qvr, qisr, qreps, qadd, qrem, qmn⟩ rfl (same_moving.2 hz))
    have HQL : Hid (IL W5 (.slice qx2 qreps.length qy2) qreps) := by
      obtain ⟨_, _, _, _, e9, g1, g2, _⟩ := HPQ5.out
      cases e9
      exact g2
    go_wp2_with fail
    refine (sameList_any HQL.out (QM.out.under HB5.out)).mono ?_
    rintro e W6 ⟨rfl, hb⟩
    rw [decide_eq_true HE.out]
    have HB6 := hid (HB5.out.trans (hb.mono HB5.out.size))
    clear hb
    go_wp2_with fail
    go_ret
    exact ⟨rfl, HB6.out⟩
  have hz' : ¬ (qadd.length : Int) + (qrem.length : Int) = 0 := by omega
  have hnm : ¬ (((⟨qid, qld, qep, qvr, qisr, qreps, qadd, qrem, qmn⟩ : Pt).add = []) ∧ ((⟨qid, qld, qep, qvr, qisr, qreps, qadd, qrem, qmn⟩ : Pt).rem = [])) := fun e => hz (same_moving.1 e)
  have HA2 := hid (HAL.out ⟨qid, qld, qep, qvr, qisr, qreps, qadd, qrem, qmn⟩ rfl hnm)
  have HF2 := hid (HFN.out ⟨qid, qld, qep, qvr, qisr, qreps, qadd, qrem, qmn⟩ rfl hnm)
  have HQL : Hid (IL W5 (.slice qx2 qreps.length qy2) qreps ∧ I64 qld ∧ I64 qep ∧ I64 qvr) := by
    obtain ⟨_, _, _, _, e9, g1, g2, _, _, _, j1, j2, j3, _⟩ := HPQ5.out
    cases e9
    exact ⟨g2, j1, j2, j3⟩
  have HNE2 := hid (HNE.out ⟨qid, qld, qep, qvr, qisr, qreps, qadd, qrem, qmn⟩ rfl hnm)
  clear HAL HFN HNM HNE hnm
  obtain ⟨i9, hi9, hz0, hz1, hz2⟩ := info3
  have hfew := HQL.out.1.few
  go_upto_region 11 with fail
  have HBE : Hid (Below W5.heap.size W5 (W5.alloc (.cells #[] 3))) := (Below.refl _ _).alloc (Nat.le_refl _) _
  have HQE := hid (blk_under HQX.out HBE.out)
  have HROW : Hid ((W5.alloc (.cells #[] 3)).ownsRow W5.heap.size 3 1 (.slice (some ⟨W5.heap.size, 0, none⟩) 0 0) 0 []) := ⟨rfl, .inr ⟨W5.heap.size, 0, #[], rfl, Nat.le_refl _, heap_alloc_new _ _, Nat.le_refl _, Nat.zero_le _, rfl, rfl⟩⟩
  have HON := hid (vals_one qreps)
  have HLn : Hid ((vals qreps).length = qreps.length * 1) := by show _ = _; rw [vals_length]; omega
  have HIL := hid (HQL.out.1.under HBE.out)
  have hq5 : q < W5.heap.size := lt_blk HQX.out
  simp only at HA2 HF2 HNE2
  obtain ⟨⟨_, _, e9, _, _, _, hat⟩, _⟩ := HQL.out.1
  cases e9
  obtain ⟨tb, toff, rfl, _⟩ := hat HNE2.out
  clear hat
  have HNW := hid (HIL.out.cells rfl HNE2.out)
  clear z0 z1 z2 z3 z4 z5 z6 z7 z8
  have z0 := cell_blk HQX.out 0 _ rfl
  have z1 := cell_blk HQX.out 1 _ rfl
  have z2 := cell_blk HQX.out 2 _ rfl
  have z3 := cell_blk HQX.out 3 _ rfl
  have z4 := cell_blk HQX.out 4 _ rfl
  have z5 := cell_blk HQX.out 5 _ rfl
  have z6 := cell_blk HQX.out 6 _ rfl
  have z7 := cell_blk HQX.out 7 _ rfl
  have z8 := cell_blk HQX.out 8 _ rfl
  go_upto_region 12 with (at_builtin; refine wpList_append_own_at _ rfl _ _ 22 rfl W5.heap.size 3 i9 _ 1 8 Try.underlying22 hi9 hz0 hz1 hz2 rfl (by decide) _ 0 [] rfl HROW.out ⟨tb, toff, none⟩ qreps.length qy2 (vals qreps) rfl HLn.out HNW.out HON.out (by unfold maxLen; omega) (by omega) (by simp) ?_; intro va W6 hown6 hg6 _ hat6)
  have HB56 : Hid (Below W5.heap.size W5 W6) := HBE.out.grown hg6 HBE.out.size (fun j hj => by cases hj; exact Nat.le_refl _)
  rw [Nat.zero_add, List.nil_append] at hown6
  obtain ⟨b1, b2, b3, rfl⟩ := own_shape hown6
  have HALL : Hid (IL W6 (.slice b1 b2 b3) qreps) := IL.of hown6 HIL.out.ok hfew
  have HQ6 := hid (blk_under HQX.out HB56.out)
  have HB6 := hid (HB5.out.trans (HB56.out.mono HB5.out.size))
  have HX6 := hid (blk_under HX5.out HB56.out)
  have HU6 := hid (HU5.out.under HB56.out)
  have HPQ6 := hid (HPQ5.out.under HB56.out)
  have G23 := hid (alter_any HPQ6.out qld qep qvr HQL.out.2.1 HQL.out.2.2.1 HQL.out.2.2.2 HALL.out HU6.out)
  rw [HA2.out] at G23
  clear hown6 hg6 hat6 z0 z1 z2 z3 z4 z5 z6 z7 z8 HROW HNW HON HLn HIL HBE HQE
  have z0 := cell_blk HQ6.out 0 _ rfl
  have z1 := cell_blk HQ6.out 1 _ rfl
  have z2 := cell_blk HQ6.out 2 _ rfl
  have z3 := cell_blk HQ6.out 3 _ rfl
  have z4 := cell_blk HQ6.out 4 _ rfl
  have z5 := cell_blk HQ6.out 5 _ rfl
  have z6 := cell_blk HQ6.out 6 _ rfl
  have z7 := cell_blk HQ6.out 7 _ rfl
  have z8 := cell_blk HQ6.out 8 _ rfl
  go_wp2_with fail
  refine G23.out.mono ?_
  rintro e W7 ⟨v', rfl, h1, h2, hb⟩
  have HW6 : Hid (q < W6.heap.size) := lt_blk HQ6.out
  have HI2 := hid (h2.mono (Y := fun b => b ≠ q) fun b hx => by have := HW6.out; omega)
  obtain ⟨xx1, xy1, xx2, xy2, xx3, xy3, xx4, xy4, rfl, _⟩ := h1.open
  have H1 : Hid (PartM W7 (.agg #[.int .i64 id, .int .i64 ld, .int .i64 ep, .int .i64 (vr + 2), .slice xx1 qreps.length xy1, .slice xx2 qreps.length xy2, .slice xx3 qadd.length xy3, .slice xx4 qrem.length xy4, .int .i64 mn]) ⟨id, ld, ep, vr + 2, qreps, qreps, qadd, qrem, mn⟩) := h1
  have HI3 : Hid (InP (fun b => b ≠ q) (.agg #[.int .i64 id, .int .i64 ld, .int .i64 ep, .int .i64 (vr + 2), .slice xx1 qreps.length xy1, .slice xx2 qreps.length xy2, .slice xx3 qadd.length xy3, .slice xx4 qrem.length xy4, .int .i64 mn]) ⟨id, ld, ep, vr + 2, qreps, qreps, qadd, qrem, mn⟩) := HI2.out
  have HQ7 := hid (blk_under HQ6.out hb)
  have HB7 := hid (HB6.out.trans (hb.mono HB6.out.size))
  have HX7 := hid (blk_under HX6.out hb)
  have HU7 := hid (HU6.out.under hb)
  clear h1 h2 hb z0 z1 z2 z3 z4 z5 z6 z7 z8 HI2 G23
  have z0 := cell_blk HQ7.out 0 _ rfl
  have z1 := cell_blk HQ7.out 1 _ rfl
  have z2 := cell_blk HQ7.out 2 _ rfl
  have z3 := cell_blk HQ7.out 3 _ rfl
  have z4 := cell_blk HQ7.out 4 _ rfl
  have z5 := cell_blk HQ7.out 5 _ rfl
  have z6 := cell_blk HQ7.out 6 _ rfl
  have z7 := cell_blk HQ7.out 7 _ rfl
  have z8 := cell_blk HQ7.out 8 _ rfl
  have fz := frz_blk HQ7.out
  go_upto_region 13 with fail
  obtain ⟨hoff, hsz9⟩ := nine_off W7 q (.int .i64 id) (.int .i64 ld) (.int .i64 ep) (.int .i64 (vr + 2)) (.slice xx1 qreps.length xy1) (.slice xx2 qreps.length xy2) (.slice xx3 qadd.length xy3) (.slice xx4 qrem.length xy4) (.int .i64 mn)
  have HQ8 := hid (nine_q HQ7.out rfl (.int .i64 id) (.int .i64 ld) (.int .i64 ep) (.int .i64 (vr + 2)) (.slice xx1 qreps.length xy1) (.slice xx2 qreps.length xy2) (.slice xx3 qadd.length xy3) (.slice xx4 qrem.length xy4) (.int .i64 mn))
  have HB8 := hid (nine_below HB7.out (Nat.le_of_lt (Nat.lt_trans HQG.out.1 HQG.out.2)) (.int .i64 id) (.int .i64 ld) (.int .i64 ep) (.int .i64 (vr + 2)) (.slice xx1 qreps.length xy1) (.slice xx2 qreps.length xy2) (.slice xx3 qadd.length xy3) (.slice xx4 qrem.length xy4) (.int .i64 mn))
  have HX8 := hid ((hoff w.heap.size (by have := HQG.out; omega)).trans HX7.out)
  have HU8 := hid (HU7.out.off (q := q) (fun _ b off n c e => by cases e; have := HQG.out; omega) hoff hsz9)
  have HP8 := hid (H1.out.off HI3.out hoff hsz9)
  clear hoff hsz9 z0 z1 z2 z3 z4 z5 z6 z7 z8 fz
  generalize (((((((((W7.setCell ⟨q, 0, none⟩ (.int .i64 id)).setCell ⟨q, 1, none⟩ (.int .i64 ld)).setCell ⟨q, 2, none⟩ (.int .i64 ep)).setCell ⟨q, 3, none⟩ (.int .i64 (vr + 2))).setCell ⟨q, 4, none⟩ (.slice xx1 qreps.length xy1)).setCell ⟨q, 5, none⟩ (.slice xx2 qreps.length xy2)).setCell ⟨q, 6, none⟩ (.slice xx3 qadd.length xy3)).setCell ⟨q, 7, none⟩ (.slice xx4 qrem.length xy4)).setCell ⟨q, 8, none⟩ (.int .i64 mn)) = W8 at *
  have z0 := cell_blk HQ8.out 0 _ rfl
  have z1 := cell_blk HQ8.out 1 _ rfl
  have z2 := cell_blk HQ8.out 2 _ rfl
  have z3 := cell_blk HQ8.out 3 _ rfl
  have z4 := cell_blk HQ8.out 4 _ rfl
  have z5 := cell_blk HQ8.out 5 _ rfl
  have z6 := cell_blk HQ8.out 6 _ rfl
  have z7 := cell_blk HQ8.out 7 _ rfl
  have z8 := cell_blk HQ8.out 8 _ rfl
  obtain ⟨r, hr, e1, e2, e3, e4, e5⟩ := HF2.out
  obtain ⟨rid, rld, rep, rvr, risr, rreps, radd, rrem, rmn⟩ := r
  simp only at e1 e2 e3 e4 e5
  subst e1 e4 e5
  have HE2 := hid e2
  have HE3 := hid e3
  have G24 := hid (finish_any HP8.out HU8.out)
  rw [hr] at G24
  clear hr e2 e3 HF2
  go_wp2_with fail
  refine (G24.out.mono fun e w' h => h.opens).mono ?_
  rintro e W9 ⟨rx1, ry1, rx2, ry2, rx3, ry3, rx4, ry4, rfl, pr, hb⟩
  simp only [List.length_nil] at pr
  have HB9 := hid (HB8.out.trans (hb.mono HB8.out.size))
  have HPR := hid pr
  clear hb pr z0 z1 z2 z3 z4 z5 z6 z7 z8 G24
  go_upto_region 14 with fail
  have HBN : Hid (Below W9.heap.size W9 (W9.alloc (.cells #[.int .i64 rid, .int .i64 rld, .int .i64 rep, .int .i64 rvr, .slice rx1 risr.length ry1, .slice rx2 rreps.length ry2, .slice rx3 0 ry3, .slice rx4 0 ry4, .int .i64 rmn] 24))) := (Below.refl _ _).alloc (Nat.le_refl _) _
  have HRX : Hid ((W9.alloc (.cells #[.int .i64 rid, .int .i64 rld, .int .i64 rep, .int .i64 rvr, .slice rx1 risr.length ry1, .slice rx2 rreps.length ry2, .slice rx3 0 ry3, .slice rx4 0 ry4, .int .i64 rmn] 24)).heap[W9.heap.size]? = some (.cells #[.int .i64 rid, .int .i64 rld, .int .i64 rep, .int .i64 rvr, .slice rx1 risr.length ry1, .slice rx2 rreps.length ry2, .slice rx3 0 ry3, .slice rx4 0 ry4, .int .i64 rmn] 24)) := heap_alloc_new _ _
  have HB10 := hid (HB9.out.trans (HBN.out.mono HB9.out.size))
  have HPR10 := hid (HPR.out.under HBN.out)
  have HRL : Hid (IL (W9.alloc (.cells #[.int .i64 rid, .int .i64 rld, .int .i64 rep, .int .i64 rvr, .slice rx1 risr.length ry1, .slice rx2 rreps.length ry2, .slice rx3 0 ry3, .slice rx4 0 ry4, .int .i64 rmn] 24)) (.slice rx2 rreps.length ry2) rreps ∧ I64 rld) := by
    obtain ⟨_, _, _, _, e9, g1, g2, _, _, _, j1, _⟩ := HPR10.out
    cases e9
    exact ⟨g2, j1⟩
  clear HBN HPR10 HPR
  generalize W9.alloc (.cells #[.int .i64 rid, .int .i64 rld, .int .i64 rep, .int .i64 rvr, .slice rx1 risr.length ry1, .slice rx2 rreps.length ry2, .slice rx3 0 ry3, .slice rx4 0 ry4, .int .i64 rmn] 24) = W10 at *
  generalize W9.heap.size = q2 at *
  have z0 := cell_blk HRX.out 0 _ rfl
  have z1 := cell_blk HRX.out 1 _ rfl
  have z2 := cell_blk HRX.out 2 _ rfl
  have z3 := cell_blk HRX.out 3 _ rfl
  have z4 := cell_blk HRX.out 4 _ rfl
  have z5 := cell_blk HRX.out 5 _ rfl
  have z6 := cell_blk HRX.out 6 _ rfl
  have z7 := cell_blk HRX.out 7 _ rfl
  have z8 := cell_blk HRX.out 8 _ rfl
  go_wp2_with fail
  refine (sameList_any HRL.out.1 (QM.out.under HB10.out)).mono ?_
  rintro e W11 ⟨rfl, hb⟩
  rw [decide_eq_true rfl]
  have HB11 := hid (HB10.out.trans (hb.mono HB10.out.size))
  have HR11 := hid (blk_under HRX.out hb)
  clear hb z0 z1 z2 z3 z4 z5 z6 z7 z8
  have z0 := cell_blk HR11.out 0 _ rfl
  have z1 := cell_blk HR11.out 1 _ rfl
  have z2 := cell_blk HR11.out 2 _ rfl
  have z3 := cell_blk HR11.out 3 _ rfl
  have z4 := cell_blk HR11.out 4 _ rfl
  have z5 := cell_blk HR11.out 5 _ rfl
  have z6 := cell_blk HR11.out 6 _ rfl
  have z7 := cell_blk HR11.out 7 _ rfl
  have z8 := cell_blk HR11.out 8 _ rfl
  go_wp2_with fail
  refine (in_any (QM.out.under HB11.out) rld HRL.out.2).mono ?_
  rintro e W12 ⟨rfl, rfl⟩
  rw [hasB_iff.2 HE2.out]
  have hrl : (risr.length : Int) = (rreps.length : Int) := by rw [HE3.out]
  have hrb : ((risr.length : Int) == (rreps.length : Int)) = true := by rw [hrl]; simp
  clear hrl
  go_wp2_with fail
  go_ret
  exact ⟨by first | rfl | exact ret_bool (by simp), HB11.out⟩
end Go.Proofs.Ytfahepeemodcbaa
