/- Whatever is decided. -/
import Derived.Test.YtfahepeemodcbaaM17
import Derived.Test.YtfahepeemodcbaaSc
import Derived.Deep.RegionHeld3
namespace Go.Proofs.Ytfahepeemodcbaa
open Go.RowKit Go.Maps
set_option linter.unusedSimpArgs false
set_option linter.unusedVariables false
set_option maxRecDepth 100000

theorem did_rules {p : Pt} (hp : RightP p) (o : Opn) : ∀ q, didP p o = (q, 0) → Rules p q (pickI o.kind 7) := by
  intro q h
  unfold didP at h
  split at h
  · exact elect_rules hp h
  split at h
  · exact fence_rules hp h
  split at h
  · exact back_rules hp h
  split at h
  · exact alter_rules hp h
  split at h
  · exact begin_rules hp h
  split at h
  · rename_i e; rw [e]; exact finish_rules hp h
  · rename_i h1 h2 h3 h4 h5 h6
    have := pickI_range o.kind 7 (by omega)
    have e : pickI o.kind 7 = 5 := by omega
    rw [e]; exact cancel_rules hp h
theorem pair_err {q : Pt} {n e : Int} (h : (Pt.zero, n) = (q, e)) : q = Pt.zero := (congrArg Prod.fst h).symm
theorem pair_ok {p q : Pt} {e : Int} (h : (p, (0 : Int)) = (q, e)) (he : e ≠ 0) : q = Pt.zero := absurd (congrArg Prod.snd h).symm he
theorem did_err (p : Pt) (o : Opn) : ∀ q e, didP p o = (q, e) → e ≠ 0 → q = Pt.zero := by
  intro q e h he
  unfold didP electP fenceP backP alterP beginP finishP cancelP settledP at h
  repeat' split at h
  all_goals first | exact pair_err h | exact pair_ok h he | exact changed_err h he
set_option maxHeartbeats 25600000 in
theorem rules_walk {w : World} {v sv : Value} {p : Pt} {ops : List Opn} (h : PartM w v p) (hs : Script w sv ops) : Calls Try.prog 5 #[v, sv] w fun e w' => e = .returned (.bool true) ∧ Below w.heap.size w w' := by
  obtain ⟨id, ld, ep, vr, isr, reps, add, rem, mn⟩ := p
  obtain ⟨a1, c1, a2, c2, a3, c3, a4, c4, rfl, q1, q2, q3, q4, i0, i1, i2, i3, i4⟩ := h.open
  simp only at q1 q2 q3 q4 i0 i1 i2 i3 i4 ⊢
  have Q1 := hid q1
  have Q2 := hid q2
  have Q3 := hid q3
  have Q4 := hid q4
  clear h q1 q2 q3 q4
  have HX : Hid ((w.alloc (.cells #[.int .i64 id, .int .i64 ld, .int .i64 ep, .int .i64 vr, .slice a1 isr.length c1, .slice a2 reps.length c2, .slice a3 add.length c3, .slice a4 rem.length c4, .int .i64 mn] 24)).heap[w.heap.size]? = some (.cells #[.int .i64 id, .int .i64 ld, .int .i64 ep, .int .i64 vr, .slice a1 isr.length c1, .slice a2 reps.length c2, .slice a3 add.length c3, .slice a4 rem.length c4, .int .i64 mn] 24)) := heap_alloc_new w _
  have HB : Hid (Below w.heap.size w (w.alloc (.cells #[.int .i64 id, .int .i64 ld, .int .i64 ep, .int .i64 vr, .slice a1 isr.length c1, .slice a2 reps.length c2, .slice a3 add.length c3, .slice a4 rem.length c4, .int .i64 mn] 24))) := (Below.refl _ _).alloc (Nat.le_refl _) _
  have hsz : (w.alloc (.cells #[.int .i64 id, .int .i64 ld, .int .i64 ep, .int .i64 vr, .slice a1 isr.length c1, .slice a2 reps.length c2, .slice a3 add.length c3, .slice a4 rem.length c4, .int .i64 mn] 24)).heap.size = w.heap.size + 1 := by simp
  obtain ⟨so, scap, rfl, hscr⟩ := hs.shape
  have hlen := hs.len
  unfold maxLen at hlen
  have HSC := hid hscr
  have HP : Hid (∀ W, Below w.heap.size w W → PartM W (.agg #[.int .i64 id, .int .i64 ld, .int .i64 ep, .int .i64 vr, .slice a1 isr.length c1, .slice a2 reps.length c2, .slice a3 add.length c3, .slice a4 rem.length c4, .int .i64 mn]) ⟨id, ld, ep, vr, isr, reps, add, rem, mn⟩) := fun W hb => ⟨_, _, _, _, rfl, Q1.out.under hb, Q2.out.under hb, Q3.out.under hb, Q4.out.under hb, i0, i1, i2, i3, i4⟩
  have G12 : Hid (∀ W, Below w.heap.size w W → Calls Try.prog 12 #[.agg #[.int .i64 id, .int .i64 ld, .int .i64 ep, .int .i64 vr, .slice a1 isr.length c1, .slice a2 reps.length c2, .slice a3 add.length c3, .slice a4 rem.length c4, .int .i64 mn]] W fun e w' => e = .returned (.bool (rightB ⟨id, ld, ep, vr, isr, reps, add, rem, mn⟩)) ∧ Below W.heap.size W w') := fun W hb => right_any (HP.out W hb)
  have HRT : Hid (rightB ⟨id, ld, ep, vr, isr, reps, add, rem, mn⟩ = true → RightP ⟨id, ld, ep, vr, isr, reps, add, rem, mn⟩) := fun e => rightB_iff.1 e
  have HIN : Hid (InP (fun b => b ≠ w.heap.size) (.agg #[.int .i64 id, .int .i64 ld, .int .i64 ep, .int .i64 vr, .slice a1 isr.length c1, .slice a2 reps.length c2, .slice a3 add.length c3, .slice a4 rem.length c4, .int .i64 mn]) ⟨id, ld, ep, vr, isr, reps, add, rem, mn⟩) := (HP.out w (Below.refl _ _)).old.mono fun b hb => by omega
  generalize rightB ⟨id, ld, ep, vr, isr, reps, add, rem, mn⟩ = B1 at *
  clear hscr hs i0 i1 i2 i3 i4 Q1 Q2 Q3 Q4
  go_enter Try.func5, Try.ntmps5
  go_wp2_with fail
  generalize w.alloc (.cells #[.int .i64 id, .int .i64 ld, .int .i64 ep, .int .i64 vr, .slice a1 isr.length c1, .slice a2 reps.length c2, .slice a3 add.length c3, .slice a4 rem.length c4, .int .i64 mn] 24) = W0 at *
  refine (shown_any _).mono ?_
  rintro e W1 ⟨rfl, hb⟩
  have HB1 := hid (HB.out.trans (hb.mono HB.out.size))
  have HX1 := hid (blk_under HX.out hb)
  clear hb hsz
  have k0 := cell_blk HX1.out 0 _ rfl
  have k1 := cell_blk HX1.out 1 _ rfl
  have k2 := cell_blk HX1.out 2 _ rfl
  have k3 := cell_blk HX1.out 3 _ rfl
  have k4 := cell_blk HX1.out 4 _ rfl
  have k5 := cell_blk HX1.out 5 _ rfl
  have k6 := cell_blk HX1.out 6 _ rfl
  have k7 := cell_blk HX1.out 7 _ rfl
  have k8 := cell_blk HX1.out 8 _ rfl
  go_wp2_with fail
  refine (G12.out _ HB1.out).mono ?_
  rintro e W2 ⟨rfl, hb⟩
  have HB2 := hid (HB1.out.trans (hb.mono HB1.out.size))
  have HX2 := hid (blk_under HX1.out hb)
  clear hb k0 k1 k2 k3 k4 k5 k6 k7 k8
  cases B1
  · go_wp2_with fail
    go_ret
    exact ⟨rfl, HB2.out⟩
  have HRP0 := hid (HRT.out rfl)
  have HP2 := hid (HP.out W2 HB2.out)
  clear HRT HP G12 HX1 HB1 HX HB
  go_wp2_with fail
  go_loopg [7] ops.length (fun kx s7 wr => ∃ k : Nat, k ≤ ops.length ∧ ops.length - k ≤ kx ∧ s7 = .int .i64 (k : Int) ∧ ∃ p' cs', wr.heap[w.heap.size]? = some (.cells cs' 24) ∧ PartM wr (.agg cs') p' ∧ InP (fun b => b ≠ w.heap.size) (.agg cs') p' ∧ RightP p' ∧ Below w.heap.size w wr)
  case atStart => exact ⟨0, Nat.zero_le _, by omega, rfl, ⟨id, ld, ep, vr, isr, reps, add, rem, mn⟩, _, HX2.out, HP2.out, HIN.out, HRP0.out, HB2.out⟩
  case round =>
    clear HRP0 HP2 HX2 HB2 HIN
    obtain ⟨k, hk, hkx, rfl, p, cs', hx, hpp, hin, hrp, hbr⟩ := hrel
    obtain ⟨id, ld, ep, vr, isr, reps, add, rem, mn⟩ := p
    obtain ⟨a1, c1, a2, c2, a3, c3, a4, c4, ecs, _, _, _, _, i0, i1, i2, i3, i4⟩ := hpp.open
    cases ecs
    simp only at hx hpp hin i0 i1 i2 i3 i4
    have HXr := hid hx
    have HPr := hid hpp
    have HIr := hid hin
    have HRP := hid hrp
    have HBr := hid hbr
    clear hx hpp hin hrp hbr
    by_cases hlt : k < ops.length
    case neg =>
      have hlt' : ¬ (k : Int) < (ops.length : Int) := by omega
      go_wp2_with fail
      go_ret
      exact ⟨rfl, HBr.out⟩
    have hlt' : (k : Int) < (ops.length : Int) := by omega
    by_cases h100 : k < 100
    case neg =>
      have h100' : ¬ (k : Int) < 100 := by omega
      go_wp2_with fail
      go_ret
      exact ⟨rfl, HBr.out⟩
    have h100' : (k : Int) < 100 := by omega
    obtain ⟨b0, off, rfl, hc⟩ := HSC.out (by intro e; rw [e] at hlt; simp at hlt)
    obtain ⟨la, lc, ua, uc, o0, o1, o2, o3, o4, o5, l1, l2, j0, j1, j2, j3⟩ := (hc k hlt).under HBr.out
    generalize ops[k] = oo at *
    obtain ⟨ok, oa, ob, oc, ol, ou⟩ := oo
    simp only at o0 o1 o2 o3 o4 o5 l1 l2 j0 j1 j2 j3
    have HLL := hid (And.intro l1 l2)
    have GPK := hid (fun W => pick_any ok 7 W j0 (by omega) (by omega))
    generalize hK0 : pickI ok 7 = K at *
    have HK0 := hid hK0
    clear hc l1 l2 hK0
    have k0 := cell_blk HXr.out 0 _ rfl
    have k1 := cell_blk HXr.out 1 _ rfl
    have k2 := cell_blk HXr.out 2 _ rfl
    have k3 := cell_blk HXr.out 3 _ rfl
    have k4 := cell_blk HXr.out 4 _ rfl
    have k5 := cell_blk HXr.out 5 _ rfl
    have k6 := cell_blk HXr.out 6 _ rfl
    have k7 := cell_blk HXr.out 7 _ rfl
    have k8 := cell_blk HXr.out 8 _ rfl
    have hgr : w.heap.size < wr.heap.size := lt_blk HXr.out
    go_wp2_with fail
    refine (GPK.out _).mono ?_
    rintro e W4 ⟨rfl, rfl⟩
    by_cases hK3 : K = 3
    · have hK3b : (K == 3) = true := by simp [hK3]
      have HK3 := hid hK3
      clear hK3
      by_cases hc2 : oc.tmod 2 = 0
      · have hc2b : (oc.tmod 2 == 0) = true := by simp [hc2]
        go_upto_region 13 with fail
        have HBN : Hid (Below wr.heap.size wr (wr.alloc (.cells #[.int .i64 ok, .int .i64 ld, .int .i64 ep, .int .i64 vr, .slice la ol.length lc, .slice ua ou.length uc] 26))) := (Below.refl _ _).alloc (Nat.le_refl _) _
        have HO5 : Hid ((wr.alloc (.cells #[.int .i64 ok, .int .i64 ld, .int .i64 ep, .int .i64 vr, .slice la ol.length lc, .slice ua ou.length uc] 26)).heap[wr.heap.size]? = some (.cells #[.int .i64 ok, .int .i64 ld, .int .i64 ep, .int .i64 vr, .slice la ol.length lc, .slice ua ou.length uc] 26)) := heap_alloc_new _ _
        have HX5 := hid (blk_under HXr.out HBN.out)
        have HB5 := hid (HBr.out.trans (HBN.out.mono HBr.out.size))
        have HP5 := hid (HPr.out.under HBN.out)
        have HOM : Hid (OpM (wr.alloc (.cells #[.int .i64 ok, .int .i64 ld, .int .i64 ep, .int .i64 vr, .slice la ol.length lc, .slice ua ou.length uc] 26)) (.agg #[.int .i64 ok, .int .i64 ld, .int .i64 ep, .int .i64 vr, .slice la ol.length lc, .slice ua ou.length uc]) ⟨ok, ld, ep, vr, ol, ou⟩) := ⟨_, _, rfl, HLL.out.1.under HBN.out, HLL.out.2.under HBN.out, j0, i1, i2, i3⟩
        clear HBN k0 k1 k2 k3 k4 k5 k6 k7 k8
        generalize wr.alloc (.cells #[.int .i64 ok, .int .i64 ld, .int .i64 ep, .int .i64 vr, .slice la ol.length lc, .slice ua ou.length uc] 26) = W5 at *
        generalize wr.heap.size = g at *
        have k0 := cell_blk HX5.out 0 _ rfl
        have k1 := cell_blk HX5.out 1 _ rfl
        have k2 := cell_blk HX5.out 2 _ rfl
        have k3 := cell_blk HX5.out 3 _ rfl
        have k4 := cell_blk HX5.out 4 _ rfl
        have k5 := cell_blk HX5.out 5 _ rfl
        have k6 := cell_blk HX5.out 6 _ rfl
        have k7 := cell_blk HX5.out 7 _ rfl
        have k8 := cell_blk HX5.out 8 _ rfl
        have m0 := cell_blk HO5.out 0 _ rfl
        have m1 := cell_blk HO5.out 1 _ rfl
        have m2 := cell_blk HO5.out 2 _ rfl
        have m3 := cell_blk HO5.out 3 _ rfl
        have m4 := cell_blk HO5.out 4 _ rfl
        have m5 := cell_blk HO5.out 5 _ rfl
        have GD := hid (did_any HP5.out HOM.out)
        have HDR : Hid (∀ q, didP ⟨id, ld, ep, vr, isr, reps, add, rem, mn⟩ ⟨ok, ld, ep, vr, ol, ou⟩ = (q, 0) → Rules ⟨id, ld, ep, vr, isr, reps, add, rem, mn⟩ q K) := fun q hq => by
          have := did_rules HRP.out ⟨ok, ld, ep, vr, ol, ou⟩ q hq
          have e0 : pickI (⟨ok, ld, ep, vr, ol, ou⟩ : Opn).kind 7 = K := HK0.out
          rw [e0] at this
          exact this
        have HDE := hid (did_err ⟨id, ld, ep, vr, isr, reps, add, rem, mn⟩ ⟨ok, ld, ep, vr, ol, ou⟩)
        generalize hdd : didP ⟨id, ld, ep, vr, isr, reps, add, rem, mn⟩ ⟨ok, ld, ep, vr, ol, ou⟩ = rr at *
        obtain ⟨⟨rid, rld, rep, rvr, rl1, rl2, rl3, rl4, rmn⟩, re⟩ := rr
        clear hdd
        go_wp2_with fail
        refine GD.out.mono ?_
        rintro e W6 ⟨v', rfl, h1, h2, hb⟩
        have HLT : Hid (w.heap.size < W5.heap.size) := lt_blk HX5.out
        have HI2 := hid (h2.mono (Y := fun b => b ≠ w.heap.size) fun b hx => by have := HLT.out; omega)
        obtain ⟨x1, y1, x2, y2, x3, y3, x4, y4, rfl, _⟩ := h1.open
        have H1 : Hid (PartM W6 (.agg #[.int .i64 rid, .int .i64 rld, .int .i64 rep, .int .i64 rvr, .slice x1 rl1.length y1, .slice x2 rl2.length y2, .slice x3 rl3.length y3, .slice x4 rl4.length y4, .int .i64 rmn]) ⟨rid, rld, rep, rvr, rl1, rl2, rl3, rl4, rmn⟩) := h1
        have HI3 : Hid (InP (fun b => b ≠ w.heap.size) (.agg #[.int .i64 rid, .int .i64 rld, .int .i64 rep, .int .i64 rvr, .slice x1 rl1.length y1, .slice x2 rl2.length y2, .slice x3 rl3.length y3, .slice x4 rl4.length y4, .int .i64 rmn]) ⟨rid, rld, rep, rvr, rl1, rl2, rl3, rl4, rmn⟩) := HI2.out
        have HX6 := hid (blk_under HX5.out hb)
        have HO6 := hid (blk_under HO5.out hb)
        have HB6 := hid (HB5.out.trans (hb.mono HB5.out.size))
        have HP6 := hid (HP5.out.under hb)
        clear h1 h2 hb HI2 GD k0 k1 k2 k3 k4 k5 k6 k7 k8 m0 m1 m2 m3 m4 m5 HX5 HO5 HB5 HP5 HOM
        go_upto_region 14 with fail
        have HBN : Hid (Below W6.heap.size W6 (W6.alloc (.cells #[.int .i64 rid, .int .i64 rld, .int .i64 rep, .int .i64 rvr, .slice x1 rl1.length y1, .slice x2 rl2.length y2, .slice x3 rl3.length y3, .slice x4 rl4.length y4, .int .i64 rmn] 24))) := (Below.refl _ _).alloc (Nat.le_refl _) _
        have HQX : Hid ((W6.alloc (.cells #[.int .i64 rid, .int .i64 rld, .int .i64 rep, .int .i64 rvr, .slice x1 rl1.length y1, .slice x2 rl2.length y2, .slice x3 rl3.length y3, .slice x4 rl4.length y4, .int .i64 rmn] 24)).heap[W6.heap.size]? = some (.cells #[.int .i64 rid, .int .i64 rld, .int .i64 rep, .int .i64 rvr, .slice x1 rl1.length y1, .slice x2 rl2.length y2, .slice x3 rl3.length y3, .slice x4 rl4.length y4, .int .i64 rmn] 24)) := heap_alloc_new _ _
        have HNE : Hid (w.heap.size < W6.heap.size) := lt_blk HX6.out
        have HX7 := hid (blk_under HX6.out HBN.out)
        have HO7 := hid (blk_under HO6.out HBN.out)
        have HB7 := hid (HB6.out.trans (HBN.out.mono HB6.out.size))
        have HP7 := hid (HP6.out.under HBN.out)
        have HQ7 := hid (H1.out.under HBN.out)
        clear HBN HX6 HO6 HB6 HP6 H1
        generalize W6.alloc (.cells #[.int .i64 rid, .int .i64 rld, .int .i64 rep, .int .i64 rvr, .slice x1 rl1.length y1, .slice x2 rl2.length y2, .slice x3 rl3.length y3, .slice x4 rl4.length y4, .int .i64 rmn] 24) = W7 at *
        generalize W6.heap.size = q at *
        have k0 := cell_blk HX7.out 0 _ rfl
        have k1 := cell_blk HX7.out 1 _ rfl
        have k2 := cell_blk HX7.out 2 _ rfl
        have k3 := cell_blk HX7.out 3 _ rfl
        have k4 := cell_blk HX7.out 4 _ rfl
        have k5 := cell_blk HX7.out 5 _ rfl
        have k6 := cell_blk HX7.out 6 _ rfl
        have k7 := cell_blk HX7.out 7 _ rfl
        have k8 := cell_blk HX7.out 8 _ rfl
        have z0 := cell_blk HQX.out 0 _ rfl
        have z1 := cell_blk HQX.out 1 _ rfl
        have z2 := cell_blk HQX.out 2 _ rfl
        have z3 := cell_blk HQX.out 3 _ rfl
        have z4 := cell_blk HQX.out 4 _ rfl
        have z5 := cell_blk HQX.out 5 _ rfl
        have z6 := cell_blk HQX.out 6 _ rfl
        have z7 := cell_blk HQX.out 7 _ rfl
        have z8 := cell_blk HQX.out 8 _ rfl
        have m0 := cell_blk HO7.out 0 _ rfl
        have m1 := cell_blk HO7.out 1 _ rfl
        have m2 := cell_blk HO7.out 2 _ rfl
        have m3 := cell_blk HO7.out 3 _ rfl
        have m4 := cell_blk HO7.out 4 _ rfl
        have m5 := cell_blk HO7.out 5 _ rfl
        by_cases he : re = 0
        · subst he
          have HRL := hid (HDR.out ⟨rid, rld, rep, rvr, rl1, rl2, rl3, rl4, rmn⟩ rfl)
          have G18 : Hid (∀ W, Below W7.heap.size W7 W → Calls Try.prog 18 #[.agg #[.int .i64 id, .int .i64 ld, .int .i64 ep, .int .i64 vr, .slice a1 isr.length c1, .slice a2 reps.length c2, .slice a3 add.length c3, .slice a4 rem.length c4, .int .i64 mn], .agg #[.int .i64 rid, .int .i64 rld, .int .i64 rep, .int .i64 rvr, .slice x1 rl1.length y1, .slice x2 rl2.length y2, .slice x3 rl3.length y3, .slice x4 rl4.length y4, .int .i64 rmn], .int .i64 K] W fun e w' => e = .returned (.bool true) ∧ Below W7.heap.size W7 w') := fun W hb => (rules_any (HP7.out.under hb) (HQ7.out.under hb) HRP.out HRL.out).mono fun e w' ⟨a, b⟩ => ⟨a, hb.trans (b.mono hb.size)⟩
          go_wp2_with fail
          go_region_held3 (fun w' => w'.cell? ⟨w.heap.size, 0, none⟩ = some (.int .i64 id) ∧ w'.cell? ⟨w.heap.size, 1, none⟩ = some (.int .i64 ld) ∧ w'.cell? ⟨w.heap.size, 2, none⟩ = some (.int .i64 ep) ∧ w'.cell? ⟨w.heap.size, 3, none⟩ = some (.int .i64 vr) ∧ w'.cell? ⟨w.heap.size, 4, none⟩ = some (.slice a1 isr.length c1) ∧ w'.cell? ⟨w.heap.size, 5, none⟩ = some (.slice a2 reps.length c2) ∧ w'.cell? ⟨w.heap.size, 6, none⟩ = some (.slice a3 add.length c3) ∧ w'.cell? ⟨w.heap.size, 7, none⟩ = some (.slice a4 rem.length c4) ∧ w'.cell? ⟨w.heap.size, 8, none⟩ = some (.int .i64 mn) ∧ w'.cell? ⟨q, 0, none⟩ = some (.int .i64 rid) ∧ w'.cell? ⟨q, 1, none⟩ = some (.int .i64 rld) ∧ w'.cell? ⟨q, 2, none⟩ = some (.int .i64 rep) ∧ w'.cell? ⟨q, 3, none⟩ = some (.int .i64 rvr) ∧ w'.cell? ⟨q, 4, none⟩ = some (.slice x1 rl1.length y1) ∧ w'.cell? ⟨q, 5, none⟩ = some (.slice x2 rl2.length y2) ∧ w'.cell? ⟨q, 6, none⟩ = some (.slice x3 rl3.length y3) ∧ w'.cell? ⟨q, 7, none⟩ = some (.slice x4 rl4.length y4) ∧ w'.cell? ⟨q, 8, none⟩ = some (.int .i64 rmn) ∧ w'.cell? ⟨g, 0, none⟩ = some (.int .i64 ok)) (go_keep)
            (first
            | (go_at_call 16; refine (GPK.out _).mono ?_; rintro e W9 ⟨rfl, rfl⟩)
            | (go_at_call 18; refine (G18.out _ (by first | exact Below.refl _ _ | exact (Below.refl _ _).drew)).mono ?_; rintro e W8 ⟨rfl, hb⟩; have HX8 := hid (blk_under HX7.out hb); have HQ8 := hid (blk_under HQX.out hb); have HO8 := hid (blk_under HO7.out hb); have HB8 := hid (HB7.out.trans (hb.mono HB7.out.size)); have HQP8 := hid (HQ7.out.under hb); clear hb k0 k1 k2 k3 k4 k5 k6 k7 k8 z0 z1 z2 z3 z4 z5 z6 z7 z8 m0 m1 m2 m3 m4 m5; have k0 := cell_blk HX8.out 0 _ rfl; have k1 := cell_blk HX8.out 1 _ rfl; have k2 := cell_blk HX8.out 2 _ rfl; have k3 := cell_blk HX8.out 3 _ rfl; have k4 := cell_blk HX8.out 4 _ rfl; have k5 := cell_blk HX8.out 5 _ rfl; have k6 := cell_blk HX8.out 6 _ rfl; have k7 := cell_blk HX8.out 7 _ rfl; have k8 := cell_blk HX8.out 8 _ rfl; have z0 := cell_blk HQ8.out 0 _ rfl; have z1 := cell_blk HQ8.out 1 _ rfl; have z2 := cell_blk HQ8.out 2 _ rfl; have z3 := cell_blk HQ8.out 3 _ rfl; have z4 := cell_blk HQ8.out 4 _ rfl; have z5 := cell_blk HQ8.out 5 _ rfl; have z6 := cell_blk HQ8.out 6 _ rfl; have z7 := cell_blk HQ8.out 7 _ rfl; have z8 := cell_blk HQ8.out 8 _ rfl; have m0 := cell_blk HO8.out 0 _ rfl)
            | fail)
          all_goals
            have fk := frz_blk HX8.out
            go_wp2_with fail
            obtain ⟨hoff, hsz9⟩ := nine_off W8 w.heap.size (.int .i64 rid) (.int .i64 rld) (.int .i64 rep) (.int .i64 rvr) (.slice x1 rl1.length y1) (.slice x2 rl2.length y2) (.slice x3 rl3.length y3) (.slice x4 rl4.length y4) (.int .i64 rmn)
            have HX9 := hid (nine_q HX8.out rfl (.int .i64 rid) (.int .i64 rld) (.int .i64 rep) (.int .i64 rvr) (.slice x1 rl1.length y1) (.slice x2 rl2.length y2) (.slice x3 rl3.length y3) (.slice x4 rl4.length y4) (.int .i64 rmn))
            have HB9 := hid (nine_below HB8.out (Nat.le_refl _) (.int .i64 rid) (.int .i64 rld) (.int .i64 rep) (.int .i64 rvr) (.slice x1 rl1.length y1) (.slice x2 rl2.length y2) (.slice x3 rl3.length y3) (.slice x4 rl4.length y4) (.int .i64 rmn))
            have HP9 := hid (HQP8.out.off HI3.out hoff hsz9)
            clear hoff hsz9 z0 z1 z2 z3 z4 z5 z6 z7 z8 k0 k1 k2 k3 k4 k5 k6 k7 k8 m0 fk
            generalize (((((((((W8.setCell ⟨w.heap.size, 0, none⟩ (.int .i64 rid)).setCell ⟨w.heap.size, 1, none⟩ (.int .i64 rld)).setCell ⟨w.heap.size, 2, none⟩ (.int .i64 rep)).setCell ⟨w.heap.size, 3, none⟩ (.int .i64 rvr)).setCell ⟨w.heap.size, 4, none⟩ (.slice x1 rl1.length y1)).setCell ⟨w.heap.size, 5, none⟩ (.slice x2 rl2.length y2)).setCell ⟨w.heap.size, 6, none⟩ (.slice x3 rl3.length y3)).setCell ⟨w.heap.size, 7, none⟩ (.slice x4 rl4.length y4)).setCell ⟨w.heap.size, 8, none⟩ (.int .i64 rmn)) = W9 at *
            go_roundg (ops.length - (k + 1))
            case measure => omega
            case rel => exact ⟨k + 1, by omega, Nat.le_refl _, by go_num, ⟨rid, rld, rep, rvr, rl1, rl2, rl3, rl4, rmn⟩, _, HX9.out, HP9.out, HI3.out, HRL.out.1, HB9.out⟩
        · have heb : (re != 0) = true := by simp [he]
          have HZ := hid (HDE.out ⟨rid, rld, rep, rvr, rl1, rl2, rl3, rl4, rmn⟩ re rfl he)
          have G14 := hid (same_any HQ7.out (partZ W7))
          rw [same_iff.2 HZ.out] at G14
          clear HZ HDE HDR
          go_wp2_with fail
          refine G14.out.mono ?_
          rintro e W8 ⟨rfl, hb⟩
          have HX8 := hid (blk_under HX7.out hb)
          have HB8 := hid (HB7.out.trans (hb.mono HB7.out.size))
          have HP8 := hid (HP7.out.under hb)
          clear hb k0 k1 k2 k3 k4 k5 k6 k7 k8 z0 z1 z2 z3 z4 z5 z6 z7 z8 m0 m1 m2 m3 m4 m5
          go_wp2_with fail
          go_roundg (ops.length - (k + 1))
          case measure => omega
          case rel => exact ⟨k + 1, by omega, Nat.le_refl _, by go_num, ⟨id, ld, ep, vr, isr, reps, add, rem, mn⟩, _, HX8.out, HP8.out, HIr.out, HRP.out, HB8.out⟩
      · have hc2b : (oc.tmod 2 == 0) = false := by simp [hc2]
        go_upto_region 13 with fail
        have HBN : Hid (Below wr.heap.size wr (wr.alloc (.cells #[.int .i64 ok, .int .i64 oa, .int .i64 ob, .int .i64 oc, .slice la ol.length lc, .slice ua ou.length uc] 26))) := (Below.refl _ _).alloc (Nat.le_refl _) _
        have HO5 : Hid ((wr.alloc (.cells #[.int .i64 ok, .int .i64 oa, .int .i64 ob, .int .i64 oc, .slice la ol.length lc, .slice ua ou.length uc] 26)).heap[wr.heap.size]? = some (.cells #[.int .i64 ok, .int .i64 oa, .int .i64 ob, .int .i64 oc, .slice la ol.length lc, .slice ua ou.length uc] 26)) := heap_alloc_new _ _
        have HX5 := hid (blk_under HXr.out HBN.out)
        have HB5 := hid (HBr.out.trans (HBN.out.mono HBr.out.size))
        have HP5 := hid (HPr.out.under HBN.out)
        have HOM : Hid (OpM (wr.alloc (.cells #[.int .i64 ok, .int .i64 oa, .int .i64 ob, .int .i64 oc, .slice la ol.length lc, .slice ua ou.length uc] 26)) (.agg #[.int .i64 ok, .int .i64 oa, .int .i64 ob, .int .i64 oc, .slice la ol.length lc, .slice ua ou.length uc]) ⟨ok, oa, ob, oc, ol, ou⟩) := ⟨_, _, rfl, HLL.out.1.under HBN.out, HLL.out.2.under HBN.out, j0, j1, j2, j3⟩
        clear HBN k0 k1 k2 k3 k4 k5 k6 k7 k8
        generalize wr.alloc (.cells #[.int .i64 ok, .int .i64 oa, .int .i64 ob, .int .i64 oc, .slice la ol.length lc, .slice ua ou.length uc] 26) = W5 at *
        generalize wr.heap.size = g at *
        have k0 := cell_blk HX5.out 0 _ rfl
        have k1 := cell_blk HX5.out 1 _ rfl
        have k2 := cell_blk HX5.out 2 _ rfl
        have k3 := cell_blk HX5.out 3 _ rfl
        have k4 := cell_blk HX5.out 4 _ rfl
        have k5 := cell_blk HX5.out 5 _ rfl
        have k6 := cell_blk HX5.out 6 _ rfl
        have k7 := cell_blk HX5.out 7 _ rfl
        have k8 := cell_blk HX5.out 8 _ rfl
        have m0 := cell_blk HO5.out 0 _ rfl
        have m1 := cell_blk HO5.out 1 _ rfl
        have m2 := cell_blk HO5.out 2 _ rfl
        have m3 := cell_blk HO5.out 3 _ rfl
        have m4 := cell_blk HO5.out 4 _ rfl
        have m5 := cell_blk HO5.out 5 _ rfl
        have GD := hid (did_any HP5.out HOM.out)
        have HDR : Hid (∀ q, didP ⟨id, ld, ep, vr, isr, reps, add, rem, mn⟩ ⟨ok, oa, ob, oc, ol, ou⟩ = (q, 0) → Rules ⟨id, ld, ep, vr, isr, reps, add, rem, mn⟩ q K) := fun q hq => by
          have := did_rules HRP.out ⟨ok, oa, ob, oc, ol, ou⟩ q hq
          have e0 : pickI (⟨ok, oa, ob, oc, ol, ou⟩ : Opn).kind 7 = K := HK0.out
          rw [e0] at this
          exact this
        have HDE := hid (did_err ⟨id, ld, ep, vr, isr, reps, add, rem, mn⟩ ⟨ok, oa, ob, oc, ol, ou⟩)
        generalize hdd : didP ⟨id, ld, ep, vr, isr, reps, add, rem, mn⟩ ⟨ok, oa, ob, oc, ol, ou⟩ = rr at *
        obtain ⟨⟨rid, rld, rep, rvr, rl1, rl2, rl3, rl4, rmn⟩, re⟩ := rr
        clear hdd
        go_wp2_with fail
        refine GD.out.mono ?_
        rintro e W6 ⟨v', rfl, h1, h2, hb⟩
        have HLT : Hid (w.heap.size < W5.heap.size) := lt_blk HX5.out
        have HI2 := hid (h2.mono (Y := fun b => b ≠ w.heap.size) fun b hx => by have := HLT.out; omega)
        obtain ⟨x1, y1, x2, y2, x3, y3, x4, y4, rfl, _⟩ := h1.open
        have H1 : Hid (PartM W6 (.agg #[.int .i64 rid, .int .i64 rld, .int .i64 rep, .int .i64 rvr, .slice x1 rl1.length y1, .slice x2 rl2.length y2, .slice x3 rl3.length y3, .slice x4 rl4.length y4, .int .i64 rmn]) ⟨rid, rld, rep, rvr, rl1, rl2, rl3, rl4, rmn⟩) := h1
        have HI3 : Hid (InP (fun b => b ≠ w.heap.size) (.agg #[.int .i64 rid, .int .i64 rld, .int .i64 rep, .int .i64 rvr, .slice x1 rl1.length y1, .slice x2 rl2.length y2, .slice x3 rl3.length y3, .slice x4 rl4.length y4, .int .i64 rmn]) ⟨rid, rld, rep, rvr, rl1, rl2, rl3, rl4, rmn⟩) := HI2.out
        have HX6 := hid (blk_under HX5.out hb)
        have HO6 := hid (blk_under HO5.out hb)
        have HB6 := hid (HB5.out.trans (hb.mono HB5.out.size))
        have HP6 := hid (HP5.out.under hb)
        clear h1 h2 hb HI2 GD k0 k1 k2 k3 k4 k5 k6 k7 k8 m0 m1 m2 m3 m4 m5 HX5 HO5 HB5 HP5 HOM
        go_upto_region 14 with fail
        have HBN : Hid (Below W6.heap.size W6 (W6.alloc (.cells #[.int .i64 rid, .int .i64 rld, .int .i64 rep, .int .i64 rvr, .slice x1 rl1.length y1, .slice x2 rl2.length y2, .slice x3 rl3.length y3, .slice x4 rl4.length y4, .int .i64 rmn] 24))) := (Below.refl _ _).alloc (Nat.le_refl _) _
        have HQX : Hid ((W6.alloc (.cells #[.int .i64 rid, .int .i64 rld, .int .i64 rep, .int .i64 rvr, .slice x1 rl1.length y1, .slice x2 rl2.length y2, .slice x3 rl3.length y3, .slice x4 rl4.length y4, .int .i64 rmn] 24)).heap[W6.heap.size]? = some (.cells #[.int .i64 rid, .int .i64 rld, .int .i64 rep, .int .i64 rvr, .slice x1 rl1.length y1, .slice x2 rl2.length y2, .slice x3 rl3.length y3, .slice x4 rl4.length y4, .int .i64 rmn] 24)) := heap_alloc_new _ _
        have HNE : Hid (w.heap.size < W6.heap.size) := lt_blk HX6.out
        have HX7 := hid (blk_under HX6.out HBN.out)
        have HO7 := hid (blk_under HO6.out HBN.out)
        have HB7 := hid (HB6.out.trans (HBN.out.mono HB6.out.size))
        have HP7 := hid (HP6.out.under HBN.out)
        have HQ7 := hid (H1.out.under HBN.out)
        clear HBN HX6 HO6 HB6 HP6 H1
        generalize W6.alloc (.cells #[.int .i64 rid, .int .i64 rld, .int .i64 rep, .int .i64 rvr, .slice x1 rl1.length y1, .slice x2 rl2.length y2, .slice x3 rl3.length y3, .slice x4 rl4.length y4, .int .i64 rmn] 24) = W7 at *
        generalize W6.heap.size = q at *
        have k0 := cell_blk HX7.out 0 _ rfl
        have k1 := cell_blk HX7.out 1 _ rfl
        have k2 := cell_blk HX7.out 2 _ rfl
        have k3 := cell_blk HX7.out 3 _ rfl
        have k4 := cell_blk HX7.out 4 _ rfl
        have k5 := cell_blk HX7.out 5 _ rfl
        have k6 := cell_blk HX7.out 6 _ rfl
        have k7 := cell_blk HX7.out 7 _ rfl
        have k8 := cell_blk HX7.out 8 _ rfl
        have z0 := cell_blk HQX.out 0 _ rfl
        have z1 := cell_blk HQX.out 1 _ rfl
        have z2 := cell_blk HQX.out 2 _ rfl
        have z3 := cell_blk HQX.out 3 _ rfl
        have z4 := cell_blk HQX.out 4 _ rfl
        have z5 := cell_blk HQX.out 5 _ rfl
        have z6 := cell_blk HQX.out 6 _ rfl
        have z7 := cell_blk HQX.out 7 _ rfl
        have z8 := cell_blk HQX.out 8 _ rfl
        have m0 := cell_blk HO7.out 0 _ rfl
        have m1 := cell_blk HO7.out 1 _ rfl
        have m2 := cell_blk HO7.out 2 _ rfl
        have m3 := cell_blk HO7.out 3 _ rfl
        have m4 := cell_blk HO7.out 4 _ rfl
        have m5 := cell_blk HO7.out 5 _ rfl
        by_cases he : re = 0
        · subst he
          have HRL := hid (HDR.out ⟨rid, rld, rep, rvr, rl1, rl2, rl3, rl4, rmn⟩ rfl)
          have G18 : Hid (∀ W, Below W7.heap.size W7 W → Calls Try.prog 18 #[.agg #[.int .i64 id, .int .i64 ld, .int .i64 ep, .int .i64 vr, .slice a1 isr.length c1, .slice a2 reps.length c2, .slice a3 add.length c3, .slice a4 rem.length c4, .int .i64 mn], .agg #[.int .i64 rid, .int .i64 rld, .int .i64 rep, .int .i64 rvr, .slice x1 rl1.length y1, .slice x2 rl2.length y2, .slice x3 rl3.length y3, .slice x4 rl4.length y4, .int .i64 rmn], .int .i64 K] W fun e w' => e = .returned (.bool true) ∧ Below W7.heap.size W7 w') := fun W hb => (rules_any (HP7.out.under hb) (HQ7.out.under hb) HRP.out HRL.out).mono fun e w' ⟨a, b⟩ => ⟨a, hb.trans (b.mono hb.size)⟩
          go_wp2_with fail
          go_region_held3 (fun w' => w'.cell? ⟨w.heap.size, 0, none⟩ = some (.int .i64 id) ∧ w'.cell? ⟨w.heap.size, 1, none⟩ = some (.int .i64 ld) ∧ w'.cell? ⟨w.heap.size, 2, none⟩ = some (.int .i64 ep) ∧ w'.cell? ⟨w.heap.size, 3, none⟩ = some (.int .i64 vr) ∧ w'.cell? ⟨w.heap.size, 4, none⟩ = some (.slice a1 isr.length c1) ∧ w'.cell? ⟨w.heap.size, 5, none⟩ = some (.slice a2 reps.length c2) ∧ w'.cell? ⟨w.heap.size, 6, none⟩ = some (.slice a3 add.length c3) ∧ w'.cell? ⟨w.heap.size, 7, none⟩ = some (.slice a4 rem.length c4) ∧ w'.cell? ⟨w.heap.size, 8, none⟩ = some (.int .i64 mn) ∧ w'.cell? ⟨q, 0, none⟩ = some (.int .i64 rid) ∧ w'.cell? ⟨q, 1, none⟩ = some (.int .i64 rld) ∧ w'.cell? ⟨q, 2, none⟩ = some (.int .i64 rep) ∧ w'.cell? ⟨q, 3, none⟩ = some (.int .i64 rvr) ∧ w'.cell? ⟨q, 4, none⟩ = some (.slice x1 rl1.length y1) ∧ w'.cell? ⟨q, 5, none⟩ = some (.slice x2 rl2.length y2) ∧ w'.cell? ⟨q, 6, none⟩ = some (.slice x3 rl3.length y3) ∧ w'.cell? ⟨q, 7, none⟩ = some (.slice x4 rl4.length y4) ∧ w'.cell? ⟨q, 8, none⟩ = some (.int .i64 rmn) ∧ w'.cell? ⟨g, 0, none⟩ = some (.int .i64 ok)) (go_keep)
            (first
            | (go_at_call 16; refine (GPK.out _).mono ?_; rintro e W9 ⟨rfl, rfl⟩)
            | (go_at_call 18; refine (G18.out _ (by first | exact Below.refl _ _ | exact (Below.refl _ _).drew)).mono ?_; rintro e W8 ⟨rfl, hb⟩; have HX8 := hid (blk_under HX7.out hb); have HQ8 := hid (blk_under HQX.out hb); have HO8 := hid (blk_under HO7.out hb); have HB8 := hid (HB7.out.trans (hb.mono HB7.out.size)); have HQP8 := hid (HQ7.out.under hb); clear hb k0 k1 k2 k3 k4 k5 k6 k7 k8 z0 z1 z2 z3 z4 z5 z6 z7 z8 m0 m1 m2 m3 m4 m5; have k0 := cell_blk HX8.out 0 _ rfl; have k1 := cell_blk HX8.out 1 _ rfl; have k2 := cell_blk HX8.out 2 _ rfl; have k3 := cell_blk HX8.out 3 _ rfl; have k4 := cell_blk HX8.out 4 _ rfl; have k5 := cell_blk HX8.out 5 _ rfl; have k6 := cell_blk HX8.out 6 _ rfl; have k7 := cell_blk HX8.out 7 _ rfl; have k8 := cell_blk HX8.out 8 _ rfl; have z0 := cell_blk HQ8.out 0 _ rfl; have z1 := cell_blk HQ8.out 1 _ rfl; have z2 := cell_blk HQ8.out 2 _ rfl; have z3 := cell_blk HQ8.out 3 _ rfl; have z4 := cell_blk HQ8.out 4 _ rfl; have z5 := cell_blk HQ8.out 5 _ rfl; have z6 := cell_blk HQ8.out 6 _ rfl; have z7 := cell_blk HQ8.out 7 _ rfl; have z8 := cell_blk HQ8.out 8 _ rfl; have m0 := cell_blk HO8.out 0 _ rfl)
            | fail)
          all_goals
            have fk := frz_blk HX8.out
            go_wp2_with fail
            obtain ⟨hoff, hsz9⟩ := nine_off W8 w.heap.size (.int .i64 rid) (.int .i64 rld) (.int .i64 rep) (.int .i64 rvr) (.slice x1 rl1.length y1) (.slice x2 rl2.length y2) (.slice x3 rl3.length y3) (.slice x4 rl4.length y4) (.int .i64 rmn)
            have HX9 := hid (nine_q HX8.out rfl (.int .i64 rid) (.int .i64 rld) (.int .i64 rep) (.int .i64 rvr) (.slice x1 rl1.length y1) (.slice x2 rl2.length y2) (.slice x3 rl3.length y3) (.slice x4 rl4.length y4) (.int .i64 rmn))
            have HB9 := hid (nine_below HB8.out (Nat.le_refl _) (.int .i64 rid) (.int .i64 rld) (.int .i64 rep) (.int .i64 rvr) (.slice x1 rl1.length y1) (.slice x2 rl2.length y2) (.slice x3 rl3.length y3) (.slice x4 rl4.length y4) (.int .i64 rmn))
            have HP9 := hid (HQP8.out.off HI3.out hoff hsz9)
            clear hoff hsz9 z0 z1 z2 z3 z4 z5 z6 z7 z8 k0 k1 k2 k3 k4 k5 k6 k7 k8 m0 fk
            generalize (((((((((W8.setCell ⟨w.heap.size, 0, none⟩ (.int .i64 rid)).setCell ⟨w.heap.size, 1, none⟩ (.int .i64 rld)).setCell ⟨w.heap.size, 2, none⟩ (.int .i64 rep)).setCell ⟨w.heap.size, 3, none⟩ (.int .i64 rvr)).setCell ⟨w.heap.size, 4, none⟩ (.slice x1 rl1.length y1)).setCell ⟨w.heap.size, 5, none⟩ (.slice x2 rl2.length y2)).setCell ⟨w.heap.size, 6, none⟩ (.slice x3 rl3.length y3)).setCell ⟨w.heap.size, 7, none⟩ (.slice x4 rl4.length y4)).setCell ⟨w.heap.size, 8, none⟩ (.int .i64 rmn)) = W9 at *
            go_roundg (ops.length - (k + 1))
            case measure => omega
            case rel => exact ⟨k + 1, by omega, Nat.le_refl _, by go_num, ⟨rid, rld, rep, rvr, rl1, rl2, rl3, rl4, rmn⟩, _, HX9.out, HP9.out, HI3.out, HRL.out.1, HB9.out⟩
        · have heb : (re != 0) = true := by simp [he]
          have HZ := hid (HDE.out ⟨rid, rld, rep, rvr, rl1, rl2, rl3, rl4, rmn⟩ re rfl he)
          have G14 := hid (same_any HQ7.out (partZ W7))
          rw [same_iff.2 HZ.out] at G14
          clear HZ HDE HDR
          go_wp2_with fail
          refine G14.out.mono ?_
          rintro e W8 ⟨rfl, hb⟩
          have HX8 := hid (blk_under HX7.out hb)
          have HB8 := hid (HB7.out.trans (hb.mono HB7.out.size))
          have HP8 := hid (HP7.out.under hb)
          clear hb k0 k1 k2 k3 k4 k5 k6 k7 k8 z0 z1 z2 z3 z4 z5 z6 z7 z8 m0 m1 m2 m3 m4 m5
          go_wp2_with fail
          go_roundg (ops.length - (k + 1))
          case measure => omega
          case rel => exact ⟨k + 1, by omega, Nat.le_refl _, by go_num, ⟨id, ld, ep, vr, isr, reps, add, rem, mn⟩, _, HX8.out, HP8.out, HIr.out, HRP.out, HB8.out⟩
    · have hK3b : (K == 3) = false := by simp [hK3]
      go_upto_region 13 with fail
      have HBN : Hid (Below wr.heap.size wr (wr.alloc (.cells #[.int .i64 ok, .int .i64 oa, .int .i64 ob, .int .i64 oc, .slice la ol.length lc, .slice ua ou.length uc] 26))) := (Below.refl _ _).alloc (Nat.le_refl _) _
      have HO5 : Hid ((wr.alloc (.cells #[.int .i64 ok, .int .i64 oa, .int .i64 ob, .int .i64 oc, .slice la ol.length lc, .slice ua ou.length uc] 26)).heap[wr.heap.size]? = some (.cells #[.int .i64 ok, .int .i64 oa, .int .i64 ob, .int .i64 oc, .slice la ol.length lc, .slice ua ou.length uc] 26)) := heap_alloc_new _ _
      have HX5 := hid (blk_under HXr.out HBN.out)
      have HB5 := hid (HBr.out.trans (HBN.out.mono HBr.out.size))
      have HP5 := hid (HPr.out.under HBN.out)
      have HOM : Hid (OpM (wr.alloc (.cells #[.int .i64 ok, .int .i64 oa, .int .i64 ob, .int .i64 oc, .slice la ol.length lc, .slice ua ou.length uc] 26)) (.agg #[.int .i64 ok, .int .i64 oa, .int .i64 ob, .int .i64 oc, .slice la ol.length lc, .slice ua ou.length uc]) ⟨ok, oa, ob, oc, ol, ou⟩) := ⟨_, _, rfl, HLL.out.1.under HBN.out, HLL.out.2.under HBN.out, j0, j1, j2, j3⟩
      clear HBN k0 k1 k2 k3 k4 k5 k6 k7 k8
      generalize wr.alloc (.cells #[.int .i64 ok, .int .i64 oa, .int .i64 ob, .int .i64 oc, .slice la ol.length lc, .slice ua ou.length uc] 26) = W5 at *
      generalize wr.heap.size = g at *
      have k0 := cell_blk HX5.out 0 _ rfl
      have k1 := cell_blk HX5.out 1 _ rfl
      have k2 := cell_blk HX5.out 2 _ rfl
      have k3 := cell_blk HX5.out 3 _ rfl
      have k4 := cell_blk HX5.out 4 _ rfl
      have k5 := cell_blk HX5.out 5 _ rfl
      have k6 := cell_blk HX5.out 6 _ rfl
      have k7 := cell_blk HX5.out 7 _ rfl
      have k8 := cell_blk HX5.out 8 _ rfl
      have m0 := cell_blk HO5.out 0 _ rfl
      have m1 := cell_blk HO5.out 1 _ rfl
      have m2 := cell_blk HO5.out 2 _ rfl
      have m3 := cell_blk HO5.out 3 _ rfl
      have m4 := cell_blk HO5.out 4 _ rfl
      have m5 := cell_blk HO5.out 5 _ rfl
      have GD := hid (did_any HP5.out HOM.out)
      have HDR : Hid (∀ q, didP ⟨id, ld, ep, vr, isr, reps, add, rem, mn⟩ ⟨ok, oa, ob, oc, ol, ou⟩ = (q, 0) → Rules ⟨id, ld, ep, vr, isr, reps, add, rem, mn⟩ q K) := fun q hq => by
        have := did_rules HRP.out ⟨ok, oa, ob, oc, ol, ou⟩ q hq
        have e0 : pickI (⟨ok, oa, ob, oc, ol, ou⟩ : Opn).kind 7 = K := HK0.out
        rw [e0] at this
        exact this
      have HDE := hid (did_err ⟨id, ld, ep, vr, isr, reps, add, rem, mn⟩ ⟨ok, oa, ob, oc, ol, ou⟩)
      generalize hdd : didP ⟨id, ld, ep, vr, isr, reps, add, rem, mn⟩ ⟨ok, oa, ob, oc, ol, ou⟩ = rr at *
      obtain ⟨⟨rid, rld, rep, rvr, rl1, rl2, rl3, rl4, rmn⟩, re⟩ := rr
      clear hdd
      go_wp2_with fail
      refine GD.out.mono ?_
      rintro e W6 ⟨v', rfl, h1, h2, hb⟩
      have HLT : Hid (w.heap.size < W5.heap.size) := lt_blk HX5.out
      have HI2 := hid (h2.mono (Y := fun b => b ≠ w.heap.size) fun b hx => by have := HLT.out; omega)
      obtain ⟨x1, y1, x2, y2, x3, y3, x4, y4, rfl, _⟩ := h1.open
      have H1 : Hid (PartM W6 (.agg #[.int .i64 rid, .int .i64 rld, .int .i64 rep, .int .i64 rvr, .slice x1 rl1.length y1, .slice x2 rl2.length y2, .slice x3 rl3.length y3, .slice x4 rl4.length y4, .int .i64 rmn]) ⟨rid, rld, rep, rvr, rl1, rl2, rl3, rl4, rmn⟩) := h1
      have HI3 : Hid (InP (fun b => b ≠ w.heap.size) (.agg #[.int .i64 rid, .int .i64 rld, .int .i64 rep, .int .i64 rvr, .slice x1 rl1.length y1, .slice x2 rl2.length y2, .slice x3 rl3.length y3, .slice x4 rl4.length y4, .int .i64 rmn]) ⟨rid, rld, rep, rvr, rl1, rl2, rl3, rl4, rmn⟩) := HI2.out
      have HX6 := hid (blk_under HX5.out hb)
      have HO6 := hid (blk_under HO5.out hb)
      have HB6 := hid (HB5.out.trans (hb.mono HB5.out.size))
      have HP6 := hid (HP5.out.under hb)
      clear h1 h2 hb HI2 GD k0 k1 k2 k3 k4 k5 k6 k7 k8 m0 m1 m2 m3 m4 m5 HX5 HO5 HB5 HP5 HOM
      go_upto_region 14 with fail
      have HBN : Hid (Below W6.heap.size W6 (W6.alloc (.cells #[.int .i64 rid, .int .i64 rld, .int .i64 rep, .int .i64 rvr, .slice x1 rl1.length y1, .slice x2 rl2.length y2, .slice x3 rl3.length y3, .slice x4 rl4.length y4, .int .i64 rmn] 24))) := (Below.refl _ _).alloc (Nat.le_refl _) _
      have HQX : Hid ((W6.alloc (.cells #[.int .i64 rid, .int .i64 rld, .int .i64 rep, .int .i64 rvr, .slice x1 rl1.length y1, .slice x2 rl2.length y2, .slice x3 rl3.length y3, .slice x4 rl4.length y4, .int .i64 rmn] 24)).heap[W6.heap.size]? = some (.cells #[.int .i64 rid, .int .i64 rld, .int .i64 rep, .int .i64 rvr, .slice x1 rl1.length y1, .slice x2 rl2.length y2, .slice x3 rl3.length y3, .slice x4 rl4.length y4, .int .i64 rmn] 24)) := heap_alloc_new _ _
      have HNE : Hid (w.heap.size < W6.heap.size) := lt_blk HX6.out
      have HX7 := hid (blk_under HX6.out HBN.out)
      have HO7 := hid (blk_under HO6.out HBN.out)
      have HB7 := hid (HB6.out.trans (HBN.out.mono HB6.out.size))
      have HP7 := hid (HP6.out.under HBN.out)
      have HQ7 := hid (H1.out.under HBN.out)
      clear HBN HX6 HO6 HB6 HP6 H1
      generalize W6.alloc (.cells #[.int .i64 rid, .int .i64 rld, .int .i64 rep, .int .i64 rvr, .slice x1 rl1.length y1, .slice x2 rl2.length y2, .slice x3 rl3.length y3, .slice x4 rl4.length y4, .int .i64 rmn] 24) = W7 at *
      generalize W6.heap.size = q at *
      have k0 := cell_blk HX7.out 0 _ rfl
      have k1 := cell_blk HX7.out 1 _ rfl
      have k2 := cell_blk HX7.out 2 _ rfl
      have k3 := cell_blk HX7.out 3 _ rfl
      have k4 := cell_blk HX7.out 4 _ rfl
      have k5 := cell_blk HX7.out 5 _ rfl
      have k6 := cell_blk HX7.out 6 _ rfl
      have k7 := cell_blk HX7.out 7 _ rfl
      have k8 := cell_blk HX7.out 8 _ rfl
      have z0 := cell_blk HQX.out 0 _ rfl
      have z1 := cell_blk HQX.out 1 _ rfl
      have z2 := cell_blk HQX.out 2 _ rfl
      have z3 := cell_blk HQX.out 3 _ rfl
      have z4 := cell_blk HQX.out 4 _ rfl
      have z5 := cell_blk HQX.out 5 _ rfl
      have z6 := cell_blk HQX.out 6 _ rfl
      have z7 := cell_blk HQX.out 7 _ rfl
      have z8 := cell_blk HQX.out 8 _ rfl
      have m0 := cell_blk HO7.out 0 _ rfl
      have m1 := cell_blk HO7.out 1 _ rfl
      have m2 := cell_blk HO7.out 2 _ rfl
      have m3 := cell_blk HO7.out 3 _ rfl
      have m4 := cell_blk HO7.out 4 _ rfl
      have m5 := cell_blk HO7.out 5 _ rfl
      by_cases he : re = 0
      · subst he
        have HRL := hid (HDR.out ⟨rid, rld, rep, rvr, rl1, rl2, rl3, rl4, rmn⟩ rfl)
        have G18 : Hid (∀ W, Below W7.heap.size W7 W → Calls Try.prog 18 #[.agg #[.int .i64 id, .int .i64 ld, .int .i64 ep, .int .i64 vr, .slice a1 isr.length c1, .slice a2 reps.length c2, .slice a3 add.length c3, .slice a4 rem.length c4, .int .i64 mn], .agg #[.int .i64 rid, .int .i64 rld, .int .i64 rep, .int .i64 rvr, .slice x1 rl1.length y1, .slice x2 rl2.length y2, .slice x3 rl3.length y3, .slice x4 rl4.length y4, .int .i64 rmn], .int .i64 K] W fun e w' => e = .returned (.bool true) ∧ Below W7.heap.size W7 w') := fun W hb => (rules_any (HP7.out.under hb) (HQ7.out.under hb) HRP.out HRL.out).mono fun e w' ⟨a, b⟩ => ⟨a, hb.trans (b.mono hb.size)⟩
        go_wp2_with fail
        go_region_held3 (fun w' => w'.cell? ⟨w.heap.size, 0, none⟩ = some (.int .i64 id) ∧ w'.cell? ⟨w.heap.size, 1, none⟩ = some (.int .i64 ld) ∧ w'.cell? ⟨w.heap.size, 2, none⟩ = some (.int .i64 ep) ∧ w'.cell? ⟨w.heap.size, 3, none⟩ = some (.int .i64 vr) ∧ w'.cell? ⟨w.heap.size, 4, none⟩ = some (.slice a1 isr.length c1) ∧ w'.cell? ⟨w.heap.size, 5, none⟩ = some (.slice a2 reps.length c2) ∧ w'.cell? ⟨w.heap.size, 6, none⟩ = some (.slice a3 add.length c3) ∧ w'.cell? ⟨w.heap.size, 7, none⟩ = some (.slice a4 rem.length c4) ∧ w'.cell? ⟨w.heap.size, 8, none⟩ = some (.int .i64 mn) ∧ w'.cell? ⟨q, 0, none⟩ = some (.int .i64 rid) ∧ w'.cell? ⟨q, 1, none⟩ = some (.int .i64 rld) ∧ w'.cell? ⟨q, 2, none⟩ = some (.int .i64 rep) ∧ w'.cell? ⟨q, 3, none⟩ = some (.int .i64 rvr) ∧ w'.cell? ⟨q, 4, none⟩ = some (.slice x1 rl1.length y1) ∧ w'.cell? ⟨q, 5, none⟩ = some (.slice x2 rl2.length y2) ∧ w'.cell? ⟨q, 6, none⟩ = some (.slice x3 rl3.length y3) ∧ w'.cell? ⟨q, 7, none⟩ = some (.slice x4 rl4.length y4) ∧ w'.cell? ⟨q, 8, none⟩ = some (.int .i64 rmn) ∧ w'.cell? ⟨g, 0, none⟩ = some (.int .i64 ok)) (go_keep)
          (first
          | (go_at_call 16; refine (GPK.out _).mono ?_; rintro e W9 ⟨rfl, rfl⟩)
          | (go_at_call 18; refine (G18.out _ (by first | exact Below.refl _ _ | exact (Below.refl _ _).drew)).mono ?_; rintro e W8 ⟨rfl, hb⟩; have HX8 := hid (blk_under HX7.out hb); have HQ8 := hid (blk_under HQX.out hb); have HO8 := hid (blk_under HO7.out hb); have HB8 := hid (HB7.out.trans (hb.mono HB7.out.size)); have HQP8 := hid (HQ7.out.under hb); clear hb k0 k1 k2 k3 k4 k5 k6 k7 k8 z0 z1 z2 z3 z4 z5 z6 z7 z8 m0 m1 m2 m3 m4 m5; have k0 := cell_blk HX8.out 0 _ rfl; have k1 := cell_blk HX8.out 1 _ rfl; have k2 := cell_blk HX8.out 2 _ rfl; have k3 := cell_blk HX8.out 3 _ rfl; have k4 := cell_blk HX8.out 4 _ rfl; have k5 := cell_blk HX8.out 5 _ rfl; have k6 := cell_blk HX8.out 6 _ rfl; have k7 := cell_blk HX8.out 7 _ rfl; have k8 := cell_blk HX8.out 8 _ rfl; have z0 := cell_blk HQ8.out 0 _ rfl; have z1 := cell_blk HQ8.out 1 _ rfl; have z2 := cell_blk HQ8.out 2 _ rfl; have z3 := cell_blk HQ8.out 3 _ rfl; have z4 := cell_blk HQ8.out 4 _ rfl; have z5 := cell_blk HQ8.out 5 _ rfl; have z6 := cell_blk HQ8.out 6 _ rfl; have z7 := cell_blk HQ8.out 7 _ rfl; have z8 := cell_blk HQ8.out 8 _ rfl; have m0 := cell_blk HO8.out 0 _ rfl)
          | fail)
        all_goals
          have fk := frz_blk HX8.out
          go_wp2_with fail
          obtain ⟨hoff, hsz9⟩ := nine_off W8 w.heap.size (.int .i64 rid) (.int .i64 rld) (.int .i64 rep) (.int .i64 rvr) (.slice x1 rl1.length y1) (.slice x2 rl2.length y2) (.slice x3 rl3.length y3) (.slice x4 rl4.length y4) (.int .i64 rmn)
          have HX9 := hid (nine_q HX8.out rfl (.int .i64 rid) (.int .i64 rld) (.int .i64 rep) (.int .i64 rvr) (.slice x1 rl1.length y1) (.slice x2 rl2.length y2) (.slice x3 rl3.length y3) (.slice x4 rl4.length y4) (.int .i64 rmn))
          have HB9 := hid (nine_below HB8.out (Nat.le_refl _) (.int .i64 rid) (.int .i64 rld) (.int .i64 rep) (.int .i64 rvr) (.slice x1 rl1.length y1) (.slice x2 rl2.length y2) (.slice x3 rl3.length y3) (.slice x4 rl4.length y4) (.int .i64 rmn))
          have HP9 := hid (HQP8.out.off HI3.out hoff hsz9)
          clear hoff hsz9 z0 z1 z2 z3 z4 z5 z6 z7 z8 k0 k1 k2 k3 k4 k5 k6 k7 k8 m0 fk
          generalize (((((((((W8.setCell ⟨w.heap.size, 0, none⟩ (.int .i64 rid)).setCell ⟨w.heap.size, 1, none⟩ (.int .i64 rld)).setCell ⟨w.heap.size, 2, none⟩ (.int .i64 rep)).setCell ⟨w.heap.size, 3, none⟩ (.int .i64 rvr)).setCell ⟨w.heap.size, 4, none⟩ (.slice x1 rl1.length y1)).setCell ⟨w.heap.size, 5, none⟩ (.slice x2 rl2.length y2)).setCell ⟨w.heap.size, 6, none⟩ (.slice x3 rl3.length y3)).setCell ⟨w.heap.size, 7, none⟩ (.slice x4 rl4.length y4)).setCell ⟨w.heap.size, 8, none⟩ (.int .i64 rmn)) = W9 at *
          go_roundg (ops.length - (k + 1))
          case measure => omega
          case rel => exact ⟨k + 1, by omega, Nat.le_refl _, by go_num, ⟨rid, rld, rep, rvr, rl1, rl2, rl3, rl4, rmn⟩, _, HX9.out, HP9.out, HI3.out, HRL.out.1, HB9.out⟩
      · have heb : (re != 0) = true := by simp [he]
        have HZ := hid (HDE.out ⟨rid, rld, rep, rvr, rl1, rl2, rl3, rl4, rmn⟩ re rfl he)
        have G14 := hid (same_any HQ7.out (partZ W7))
        rw [same_iff.2 HZ.out] at G14
        clear HZ HDE HDR
        go_wp2_with fail
        refine G14.out.mono ?_
        rintro e W8 ⟨rfl, hb⟩
        have HX8 := hid (blk_under HX7.out hb)
        have HB8 := hid (HB7.out.trans (hb.mono HB7.out.size))
        have HP8 := hid (HP7.out.under hb)
        clear hb k0 k1 k2 k3 k4 k5 k6 k7 k8 z0 z1 z2 z3 z4 z5 z6 z7 z8 m0 m1 m2 m3 m4 m5
        go_wp2_with fail
        go_roundg (ops.length - (k + 1))
        case measure => omega
        case rel => exact ⟨k + 1, by omega, Nat.le_refl _, by go_num, ⟨id, ld, ep, vr, isr, reps, add, rem, mn⟩, _, HX8.out, HP8.out, HIr.out, HRP.out, HB8.out⟩
end Go.Proofs.Ytfahepeemodcbaa
