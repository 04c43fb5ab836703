/- From one state to the next: rules. -/
import Derived.Test.YtfahepeemodcbaaM16
namespace Go.Proofs.Ytfahepeemodcbaa
open Go.RowKit Go.Maps
set_option linter.unusedSimpArgs false
set_option linter.unusedVariables false
set_option maxRecDepth 100000

theorem same_iff {p q : Pt} : sameP p q = true ↔ p = q := by
  obtain ⟨a1, a2, a3, a4, a5, a6, a7, a8, a9⟩ := p
  obtain ⟨b1, b2, b3, b4, b5, b6, b7, b8, b9⟩ := q
  simp only [sameP, Bool.and_eq_true, decide_eq_true_eq, Pt.mk.injEq]
  constructor
  · rintro ⟨⟨⟨⟨⟨⟨⟨⟨h1, h2⟩, h3⟩, h4⟩, h5⟩, h6⟩, h7⟩, h8⟩, h9⟩; exact ⟨h1, h2, h3, h4, h6, h7, h8, h9, h5⟩
  · rintro ⟨h1, h2, h3, h4, h6, h7, h8, h9, h5⟩; exact ⟨⟨⟨⟨⟨⟨⟨⟨h1, h2⟩, h3⟩, h4⟩, h5⟩, h6⟩, h7⟩, h8⟩, h9⟩
set_option maxHeartbeats 12800000 in
theorem rules_any {w : World} {v v2 : Value} {p q : Pt} {kd : Int} (h : PartM w v p) (h2 : PartM w v2 q) (hp : RightP p) (hR : Rules p q kd) : Calls Try.prog 18 #[v, v2, .int .i64 kd] w fun e w' => e = .returned (.bool true) ∧ Below w.heap.size w w' := by
  have HP2 := hid h2
  have HP1 := hid h
  obtain ⟨id, ld, ep, vr, isr, reps, add, rem, mn⟩ := p
  obtain ⟨a1, c1, a2, c2, a3, c3, a4, c4, rfl, q1, q2, q3, q4, i0, i1, i2, i3, i4⟩ := h.open
  simp only at q1 q2 q3 q4 i0 i1 i2 i3 i4 ⊢
  have Q1 := hid q1
  have Q2 := hid q2
  have Q3 := hid q3
  have Q4 := hid q4
  clear h q1 q2 q3 q4
  obtain ⟨qid, qld, qep, qvr, qisr, qreps, qadd, qrem, qmn⟩ := q
  obtain ⟨b1, d1, b2, d2, b3, d3, b4, d4, rfl, q1, q2, q3, q4, _, jl, _⟩ := h2.open
  simp only at q1 q2 q3 q4 jl ⊢
  have R1 := hid q1
  have R2 := hid q2
  have HT0 := hid (two_new w #[.int .i64 id, .int .i64 ld, .int .i64 ep, .int .i64 vr, .slice a1 isr.length c1, .slice a2 reps.length c2, .slice a3 add.length c3, .slice a4 rem.length c4, .int .i64 mn] #[.int .i64 qid, .int .i64 qld, .int .i64 qep, .int .i64 qvr, .slice b1 qisr.length d1, .slice b2 qreps.length d2, .slice b3 qadd.length d3, .slice b4 qrem.length d4, .int .i64 qmn])
  have HRB : Hid (rightB ⟨qid, qld, qep, qvr, qisr, qreps, qadd, qrem, qmn⟩ = true) := rightB_iff.2 hR.1
  have HSM : Hid (sameP ⟨id, ld, ep, vr, isr, reps, add, rem, mn⟩ ⟨qid, qld, qep, qvr, qisr, qreps, qadd, qrem, qmn⟩ = false → (⟨qid, qld, qep, qvr, qisr, qreps, qadd, qrem, qmn⟩ : Pt) ≠ ⟨id, ld, ep, vr, isr, reps, add, rem, mn⟩) := fun e hn => by
    have := (same_iff (p := ⟨id, ld, ep, vr, isr, reps, add, rem, mn⟩) (q := ⟨qid, qld, qep, qvr, qisr, qreps, qadd, qrem, qmn⟩)).2 hn.symm
    rw [this] at e; cases e
  have HRU := hid hR.2
  have hvr := hp.ver
  have hep := hp.epoch
  simp only at hvr hep
  obtain ⟨hvr1, hvr2⟩ := hvr
  obtain ⟨hep1, hep2⟩ := hep
  have G12 : Hid (∀ W, Below w.heap.size w W → Calls Try.prog 12 #[.agg #[.int .i64 qid, .int .i64 qld, .int .i64 qep, .int .i64 qvr, .slice b1 qisr.length d1, .slice b2 qreps.length d2, .slice b3 qadd.length d3, .slice b4 qrem.length d4, .int .i64 qmn]] W fun e w' => e = .returned (.bool true) ∧ Below W.heap.size W w') := fun W hb => (right_any (HP2.out.under hb)).mono fun e w' ⟨a, b⟩ => ⟨by rw [a, HRB.out], b⟩
  have G14 : Hid (∀ W, Below w.heap.size w W → Calls Try.prog 14 #[.agg #[.int .i64 id, .int .i64 ld, .int .i64 ep, .int .i64 vr, .slice a1 isr.length c1, .slice a2 reps.length c2, .slice a3 add.length c3, .slice a4 rem.length c4, .int .i64 mn], .agg #[.int .i64 qid, .int .i64 qld, .int .i64 qep, .int .i64 qvr, .slice b1 qisr.length d1, .slice b2 qreps.length d2, .slice b3 qadd.length d3, .slice b4 qrem.length d4, .int .i64 qmn]] W fun e w' => e = .returned (.bool (sameP ⟨id, ld, ep, vr, isr, reps, add, rem, mn⟩ ⟨qid, qld, qep, qvr, qisr, qreps, qadd, qrem, qmn⟩)) ∧ Below W.heap.size W w') := fun W hb => same_any (HP1.out.under hb) (HP2.out.under hb)
  generalize sameP ⟨id, ld, ep, vr, isr, reps, add, rem, mn⟩ ⟨qid, qld, qep, qvr, qisr, qreps, qadd, qrem, qmn⟩ = B at *
  clear h2 q1 q2 q3 q4 i0 i1 i2 i3 i4 hR hp
  go_enter Try.func18, Try.ntmps18
  go_wp2_with fail
  generalize (w.alloc (.cells #[.int .i64 id, .int .i64 ld, .int .i64 ep, .int .i64 vr, .slice a1 isr.length c1, .slice a2 reps.length c2, .slice a3 add.length c3, .slice a4 rem.length c4, .int .i64 mn] 24)).alloc (.cells #[.int .i64 qid, .int .i64 qld, .int .i64 qep, .int .i64 qvr, .slice b1 qisr.length d1, .slice b2 qreps.length d2, .slice b3 qadd.length d3, .slice b4 qrem.length d4, .int .i64 qmn] 24) = W0 at *
  refine (G12.out _ HT0.out.b).mono ?_
  rintro e W1 ⟨rfl, hb⟩
  have HT1 := hid (HT0.out.next hb)
  clear hb
  have k0 := cell_blk HT1.out.x 0 _ rfl
  have k1 := cell_blk HT1.out.x 1 _ rfl
  have k2 := cell_blk HT1.out.x 2 _ rfl
  have k3 := cell_blk HT1.out.x 3 _ rfl
  have k4 := cell_blk HT1.out.x 4 _ rfl
  have k5 := cell_blk HT1.out.x 5 _ rfl
  have k6 := cell_blk HT1.out.x 6 _ rfl
  have k7 := cell_blk HT1.out.x 7 _ rfl
  have k8 := cell_blk HT1.out.x 8 _ rfl
  have z0 := cell_blk HT1.out.z 0 _ rfl
  have z1 := cell_blk HT1.out.z 1 _ rfl
  have z2 := cell_blk HT1.out.z 2 _ rfl
  have z3 := cell_blk HT1.out.z 3 _ rfl
  have z4 := cell_blk HT1.out.z 4 _ rfl
  have z5 := cell_blk HT1.out.z 5 _ rfl
  have z6 := cell_blk HT1.out.z 6 _ rfl
  have z7 := cell_blk HT1.out.z 7 _ rfl
  have z8 := cell_blk HT1.out.z 8 _ rfl
  go_wp2_with fail
  refine (G14.out _ HT1.out.b).mono ?_
  rintro e W2 ⟨rfl, hb⟩
  have HT2 := hid (HT1.out.next hb)
  clear hb k0 k1 k2 k3 k4 k5 k6 k7 k8 z0 z1 z2 z3 z4 z5 z6 z7 z8
  have k0 := cell_blk HT2.out.x 0 _ rfl
  have k1 := cell_blk HT2.out.x 1 _ rfl
  have k2 := cell_blk HT2.out.x 2 _ rfl
  have k3 := cell_blk HT2.out.x 3 _ rfl
  have k4 := cell_blk HT2.out.x 4 _ rfl
  have k5 := cell_blk HT2.out.x 5 _ rfl
  have k6 := cell_blk HT2.out.x 6 _ rfl
  have k7 := cell_blk HT2.out.x 7 _ rfl
  have k8 := cell_blk HT2.out.x 8 _ rfl
  have z0 := cell_blk HT2.out.z 0 _ rfl
  have z1 := cell_blk HT2.out.z 1 _ rfl
  have z2 := cell_blk HT2.out.z 2 _ rfl
  have z3 := cell_blk HT2.out.z 3 _ rfl
  have z4 := cell_blk HT2.out.z 4 _ rfl
  have z5 := cell_blk HT2.out.z 5 _ rfl
  have z6 := cell_blk HT2.out.z 6 _ rfl
  have z7 := cell_blk HT2.out.z 7 _ rfl
  have z8 := cell_blk HT2.out.z 8 _ rfl
  cases B
  case true =>
    go_wp2_with fail
    go_ret
    exact ⟨rfl, HT2.out.b⟩
  rcases HRU.out with hn | ⟨e1, e2, e3, e4, e5, e6⟩
  · exact absurd hn (HSM.out rfl)
  try simp only at e1 e2 e3 e4 e5 e6
  subst e1 e2 e3
  have HRE := hid e6
  have HLD := hid e5
  clear HSM HRU G12 G14 HRB HP1 HP2 e5 e6 HT0 HT1
  have hvv : ¬ (vr + 1 ≠ vr + 1) := by omega
  rcases e4 with ⟨e7, e8⟩ | ⟨e7, e8⟩
  · subst e7 e8
    have x1 : ¬ qep < qep := by omega
    have x2 : ¬ qep + 1 < qep := by omega
    have x3 : (qep == qep + 1) = false := by simp; omega
    go_upto_region 12 with fail
    go_wp2_with fail
    go_loopg [11] reps.length (fun kx s11 wr => ∃ k : Nat, k ≤ reps.length ∧ reps.length - k ≤ kx ∧ s11 = .int .i64 (k : Int) ∧ Hid (Below W2.heap.size W2 wr))
    case atStart => exact ⟨0, Nat.zero_le _, by omega, rfl, Below.refl _ _⟩
    case round =>
      obtain ⟨k, hk, hkx, rfl, HR⟩ := hrel
      have HTr := hid (HT2.out.next HR.out)
      have HBr := hid HTr.out.b
      clear k0 k1 k2 k3 k4 k5 k6 k7 k8 z0 z1 z2 z3 z4 z5 z6 z7 z8
      have k5 := cell_blk HTr.out.x 5 _ rfl
      have k6 := cell_blk HTr.out.x 6 _ rfl
      have z4 := cell_blk HTr.out.z 4 _ rfl
      have z5 := cell_blk HTr.out.z 5 _ rfl
      by_cases hlt : k < reps.length
      · obtain ⟨⟨_, _, e9, _, _, _, hat⟩, hok, _⟩ := Q2.out
        cases e9
        obtain ⟨b, off, rfl, _, hc⟩ := hat (by intro e; rw [e] at hlt; simp at hlt)
        have hck := kept_cell HBr.out (hc k hlt)
        have hok' := hok reps[k] (by simp)
        have HRU := hid (HRE.out reps[k] (by simp))
        have hlt' : (k : Int) < (reps.length : Int) := by omega
        generalize reps[k] = y at *
        clear hc hat hok
        have G1 := hid (in_any (R2.out.under HBr.out) y hok')
        have G2 := hid (in_any (Q3.out.under HBr.out) y hok')
        go_wp2_with fail
        refine G1.out.mono ?_
        rintro e W5 ⟨rfl, rfl⟩
        go_wp2_with fail
        refine G2.out.mono ?_
        rintro e W5 ⟨rfl, rfl⟩
        cases hst : hasB qreps y with
        | true =>
          go_wp2_with fail
          go_roundg (reps.length - (k + 1))
          case measure => omega
          case rel => exact ⟨k + 1, by omega, Nat.le_refl _, by go_num, HR.out⟩
        | false =>
          rcases HRU.out with h1 | ⟨h1, h2⟩ | ⟨h1, h2⟩
          · rw [hasB_iff.2 h1] at hst; cases hst
          · subst h1
            rw [hasB_iff.2 h2]
            go_wp2_with fail
            go_roundg (reps.length - (k + 1))
            case measure => omega
            case rel => exact ⟨k + 1, by omega, Nat.le_refl _, by go_num, HR.out⟩
          · subst h1
            have HH2 := hid h2
            clear h2 hst
            go_wp2_with fail
            go_loopg [15] qreps.length (fun kx s15 ws => ∃ j : Nat, j ≤ qreps.length ∧ qreps.length - j ≤ kx ∧ s15 = .int .i64 (j : Int) ∧ Hid (Below wr.heap.size wr ws))
            case atStart => exact ⟨0, Nat.zero_le _, by omega, rfl, Below.refl _ _⟩
            case round =>
              obtain ⟨j, hj, hjx, rfl, HS⟩ := hrel
              rename_i ws
              have HTs := hid (HTr.out.next HS.out)
              clear k5 k6 z4 z5
              have z4 := cell_blk HTs.out.z 4 _ rfl
              have z5 := cell_blk HTs.out.z 5 _ rfl
              by_cases hjl : j < qreps.length
              · obtain ⟨⟨_, _, e9, _, _, _, hat⟩, hok, _⟩ := R2.out
                cases e9
                obtain ⟨b', off', rfl, _, hc⟩ := hat (by intro e; rw [e] at hjl; simp at hjl)
                have hcj := kept_cell HTs.out.b (hc j hjl)
                have hokj := hok qreps[j] (by simp)
                have HI : Hid (hasB qisr qreps[j] = true) := hasB_iff.2 (HH2.out _ (by simp))
                have hjl' : (j : Int) < (qreps.length : Int) := by omega
                have hj0 : (0 : Int) ≤ (j : Int) := by omega
                generalize qreps[j] = x at *
                clear hc hat hok
                have H21 : Hid (∀ W, Below w.heap.size w W → Calls Try.prog 21 #[.slice b1 qisr.length d1, .int .i64 x] W fun e w' => e = .returned (.bool true) ∧ w' = W) := fun W hb => (in_any (R1.out.under hb) x hokj).mono fun e w' ⟨a, b⟩ => ⟨by rw [a, HI.out], b.symm⟩
                go_wp2_with fail
                go_quiet ((go_at_call 21; exact Calls.quiet_of_same (H21.out _ (below_drewN HTs.out.b _))))
                go_wp2_with fail
                go_roundg (qreps.length - (j + 1))
                case measure => omega
                case rel => exact ⟨j + 1, by omega, Nat.le_refl _, by go_num, by first | exact HS.out | exact HS.out.drew | exact below_drewN HS.out _⟩
              · have hjl' : ¬ (j : Int) < (qreps.length : Int) := by omega
                go_wp2_with fail
                go_roundg (reps.length - (k + 1))
                case measure => omega
                case rel => exact ⟨k + 1, by omega, Nat.le_refl _, by go_num, HR.out.trans (HS.out.mono HR.out.size)⟩
      · have hlt' : ¬ (k : Int) < (reps.length : Int) := by omega
        go_wp2_with fail
        go_ret
        exact ⟨rfl, HBr.out⟩
  · subst e8
    have x1 : ¬ ep + 1 < ep := by omega
    have x3 : (qld != ld) = true := by simp [e7]
    by_cases h0 : qld = 0
    · subst h0
      go_upto_region 12 with fail
      go_wp2_with fail
      go_loopg [11] reps.length (fun kx s11 wr => ∃ k : Nat, k ≤ reps.length ∧ reps.length - k ≤ kx ∧ s11 = .int .i64 (k : Int) ∧ Hid (Below W2.heap.size W2 wr))
      case atStart => exact ⟨0, Nat.zero_le _, by omega, rfl, Below.refl _ _⟩
      case round =>
        obtain ⟨k, hk, hkx, rfl, HR⟩ := hrel
        have HTr := hid (HT2.out.next HR.out)
        have HBr := hid HTr.out.b
        clear k0 k1 k2 k3 k4 k5 k6 k7 k8 z0 z1 z2 z3 z4 z5 z6 z7 z8
        have k5 := cell_blk HTr.out.x 5 _ rfl
        have k6 := cell_blk HTr.out.x 6 _ rfl
        have z4 := cell_blk HTr.out.z 4 _ rfl
        have z5 := cell_blk HTr.out.z 5 _ rfl
        by_cases hlt : k < reps.length
        · obtain ⟨⟨_, _, e9, _, _, _, hat⟩, hok, _⟩ := Q2.out
          cases e9
          obtain ⟨b, off, rfl, _, hc⟩ := hat (by intro e; rw [e] at hlt; simp at hlt)
          have hck := kept_cell HBr.out (hc k hlt)
          have hok' := hok reps[k] (by simp)
          have HRU := hid (HRE.out reps[k] (by simp))
          have hlt' : (k : Int) < (reps.length : Int) := by omega
          generalize reps[k] = y at *
          clear hc hat hok
          have G1 := hid (in_any (R2.out.under HBr.out) y hok')
          have G2 := hid (in_any (Q3.out.under HBr.out) y hok')
          go_wp2_with fail
          refine G1.out.mono ?_
          rintro e W5 ⟨rfl, rfl⟩
          go_wp2_with fail
          refine G2.out.mono ?_
          rintro e W5 ⟨rfl, rfl⟩
          cases hst : hasB qreps y with
          | true =>
            go_wp2_with fail
            go_roundg (reps.length - (k + 1))
            case measure => omega
            case rel => exact ⟨k + 1, by omega, Nat.le_refl _, by go_num, HR.out⟩
          | false =>
            rcases HRU.out with h1 | ⟨h1, h2⟩ | ⟨h1, h2⟩
            · rw [hasB_iff.2 h1] at hst; cases hst
            · subst h1
              rw [hasB_iff.2 h2]
              go_wp2_with fail
              go_roundg (reps.length - (k + 1))
              case measure => omega
              case rel => exact ⟨k + 1, by omega, Nat.le_refl _, by go_num, HR.out⟩
            · subst h1
              have HH2 := hid h2
              clear h2 hst
              go_wp2_with fail
              go_loopg [15] qreps.length (fun kx s15 ws => ∃ j : Nat, j ≤ qreps.length ∧ qreps.length - j ≤ kx ∧ s15 = .int .i64 (j : Int) ∧ Hid (Below wr.heap.size wr ws))
              case atStart => exact ⟨0, Nat.zero_le _, by omega, rfl, Below.refl _ _⟩
              case round =>
                obtain ⟨j, hj, hjx, rfl, HS⟩ := hrel
                rename_i ws
                have HTs := hid (HTr.out.next HS.out)
                clear k5 k6 z4 z5
                have z4 := cell_blk HTs.out.z 4 _ rfl
                have z5 := cell_blk HTs.out.z 5 _ rfl
                by_cases hjl : j < qreps.length
                · obtain ⟨⟨_, _, e9, _, _, _, hat⟩, hok, _⟩ := R2.out
                  cases e9
                  obtain ⟨b', off', rfl, _, hc⟩ := hat (by intro e; rw [e] at hjl; simp at hjl)
                  have hcj := kept_cell HTs.out.b (hc j hjl)
                  have hokj := hok qreps[j] (by simp)
                  have HI : Hid (hasB qisr qreps[j] = true) := hasB_iff.2 (HH2.out _ (by simp))
                  have hjl' : (j : Int) < (qreps.length : Int) := by omega
                  have hj0 : (0 : Int) ≤ (j : Int) := by omega
                  generalize qreps[j] = x at *
                  clear hc hat hok
                  have H21 : Hid (∀ W, Below w.heap.size w W → Calls Try.prog 21 #[.slice b1 qisr.length d1, .int .i64 x] W fun e w' => e = .returned (.bool true) ∧ w' = W) := fun W hb => (in_any (R1.out.under hb) x hokj).mono fun e w' ⟨a, b⟩ => ⟨by rw [a, HI.out], b.symm⟩
                  go_wp2_with fail
                  go_quiet ((go_at_call 21; exact Calls.quiet_of_same (H21.out _ (below_drewN HTs.out.b _))))
                  go_wp2_with fail
                  go_roundg (qreps.length - (j + 1))
                  case measure => omega
                  case rel => exact ⟨j + 1, by omega, Nat.le_refl _, by go_num, by first | exact HS.out | exact HS.out.drew | exact below_drewN HS.out _⟩
                · have hjl' : ¬ (j : Int) < (qreps.length : Int) := by omega
                  go_wp2_with fail
                  go_roundg (reps.length - (k + 1))
                  case measure => omega
                  case rel => exact ⟨k + 1, by omega, Nat.le_refl _, by go_num, HR.out.trans (HS.out.mono HR.out.size)⟩
        · have hlt' : ¬ (k : Int) < (reps.length : Int) := by omega
          go_wp2_with fail
          go_ret
          exact ⟨rfl, HBr.out⟩
    · have x4 : (qld != 0) = true := by simp [h0]
      obtain ⟨l1, l2⟩ := HLD.out e7 h0
      have GA := hid (in_any (Q1.out.under HT2.out.b) qld jl)
      have GB := hid (in_any (R1.out.under HT2.out.b) qld jl)
      rw [hasB_iff.2 l1] at GA
      rw [hasB_iff.2 l2] at GB
      go_wp2_with fail
      refine GA.out.mono ?_
      rintro e W5 ⟨rfl, rfl⟩
      go_wp2_with fail
      refine GB.out.mono ?_
      rintro e W5 ⟨rfl, rfl⟩
      go_upto_region 12 with fail
      go_wp2_with fail
      go_loopg [11] reps.length (fun kx s11 wr => ∃ k : Nat, k ≤ reps.length ∧ reps.length - k ≤ kx ∧ s11 = .int .i64 (k : Int) ∧ Hid (Below W2.heap.size W2 wr))
      case atStart => exact ⟨0, Nat.zero_le _, by omega, rfl, Below.refl _ _⟩
      case round =>
        obtain ⟨k, hk, hkx, rfl, HR⟩ := hrel
        have HTr := hid (HT2.out.next HR.out)
        have HBr := hid HTr.out.b
        clear k0 k1 k2 k3 k4 k5 k6 k7 k8 z0 z1 z2 z3 z4 z5 z6 z7 z8
        have k5 := cell_blk HTr.out.x 5 _ rfl
        have k6 := cell_blk HTr.out.x 6 _ rfl
        have z4 := cell_blk HTr.out.z 4 _ rfl
        have z5 := cell_blk HTr.out.z 5 _ rfl
        by_cases hlt : k < reps.length
        · obtain ⟨⟨_, _, e9, _, _, _, hat⟩, hok, _⟩ := Q2.out
          cases e9
          obtain ⟨b, off, rfl, _, hc⟩ := hat (by intro e; rw [e] at hlt; simp at hlt)
          have hck := kept_cell HBr.out (hc k hlt)
          have hok' := hok reps[k] (by simp)
          have HRU := hid (HRE.out reps[k] (by simp))
          have hlt' : (k : Int) < (reps.length : Int) := by omega
          generalize reps[k] = y at *
          clear hc hat hok
          have G1 := hid (in_any (R2.out.under HBr.out) y hok')
          have G2 := hid (in_any (Q3.out.under HBr.out) y hok')
          go_wp2_with fail
          refine G1.out.mono ?_
          rintro e W5 ⟨rfl, rfl⟩
          go_wp2_with fail
          refine G2.out.mono ?_
          rintro e W5 ⟨rfl, rfl⟩
          cases hst : hasB qreps y with
          | true =>
            go_wp2_with fail
            go_roundg (reps.length - (k + 1))
            case measure => omega
            case rel => exact ⟨k + 1, by omega, Nat.le_refl _, by go_num, HR.out⟩
          | false =>
            rcases HRU.out with h1 | ⟨h1, h2⟩ | ⟨h1, h2⟩
            · rw [hasB_iff.2 h1] at hst; cases hst
            · subst h1
              rw [hasB_iff.2 h2]
              go_wp2_with fail
              go_roundg (reps.length - (k + 1))
              case measure => omega
              case rel => exact ⟨k + 1, by omega, Nat.le_refl _, by go_num, HR.out⟩
            · subst h1
              have HH2 := hid h2
              clear h2 hst
              go_wp2_with fail
              go_loopg [15] qreps.length (fun kx s15 ws => ∃ j : Nat, j ≤ qreps.length ∧ qreps.length - j ≤ kx ∧ s15 = .int .i64 (j : Int) ∧ Hid (Below wr.heap.size wr ws))
              case atStart => exact ⟨0, Nat.zero_le _, by omega, rfl, Below.refl _ _⟩
              case round =>
                obtain ⟨j, hj, hjx, rfl, HS⟩ := hrel
                rename_i ws
                have HTs := hid (HTr.out.next HS.out)
                clear k5 k6 z4 z5
                have z4 := cell_blk HTs.out.z 4 _ rfl
                have z5 := cell_blk HTs.out.z 5 _ rfl
                by_cases hjl : j < qreps.length
                · obtain ⟨⟨_, _, e9, _, _, _, hat⟩, hok, _⟩ := R2.out
                  cases e9
                  obtain ⟨b', off', rfl, _, hc⟩ := hat (by intro e; rw [e] at hjl; simp at hjl)
                  have hcj := kept_cell HTs.out.b (hc j hjl)
                  have hokj := hok qreps[j] (by simp)
                  have HI : Hid (hasB qisr qreps[j] = true) := hasB_iff.2 (HH2.out _ (by simp))
                  have hjl' : (j : Int) < (qreps.length : Int) := by omega
                  have hj0 : (0 : Int) ≤ (j : Int) := by omega
                  generalize qreps[j] = x at *
                  clear hc hat hok
                  have H21 : Hid (∀ W, Below w.heap.size w W → Calls Try.prog 21 #[.slice b1 qisr.length d1, .int .i64 x] W fun e w' => e = .returned (.bool true) ∧ w' = W) := fun W hb => (in_any (R1.out.under hb) x hokj).mono fun e w' ⟨a, b⟩ => ⟨by rw [a, HI.out], b.symm⟩
                  go_wp2_with fail
                  go_quiet ((go_at_call 21; exact Calls.quiet_of_same (H21.out _ (below_drewN HTs.out.b _))))
                  go_wp2_with fail
                  go_roundg (qreps.length - (j + 1))
                  case measure => omega
                  case rel => exact ⟨j + 1, by omega, Nat.le_refl _, by go_num, by first | exact HS.out | exact HS.out.drew | exact below_drewN HS.out _⟩
                · have hjl' : ¬ (j : Int) < (qreps.length : Int) := by omega
                  go_wp2_with fail
                  go_roundg (reps.length - (k + 1))
                  case measure => omega
                  case rel => exact ⟨k + 1, by omega, Nat.le_refl _, by go_num, HR.out.trans (HS.out.mono HR.out.size)⟩
        · have hlt' : ¬ (k : Int) < (reps.length : Int) := by omega
          go_wp2_with fail
          go_ret
          exact ⟨rfl, HBr.out⟩
end Go.Proofs.Ytfahepeemodcbaa
